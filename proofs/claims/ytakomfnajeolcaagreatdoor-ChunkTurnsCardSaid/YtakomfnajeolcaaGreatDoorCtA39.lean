import Derived.Test.YtakomfnajeolcaaGreatDoorCtA38
set_option linter.unusedVariables false
/- numbers: what a chunk tells of each histogram. -/
namespace Go.Proofs.YtakomfnajeolcaaGreatDoor.Ch
open Go.RowKit Go.Sort Go.Proofs.YtakomfnajeolcaaGreatDoor.En
set_option linter.unusedVariables false

/-- a slice of numbers -/
def UL (l : List Int) (v : Value) (w : World) : Prop := ∃ A c, v = .slice A l.length c ∧ Tk.Cl w A (Tk.intsC .u64 l)
theorem UL.below {l : List Int} {v : Value} {w w' : World} (h : UL l v w) (hb : Below w.heap.size w w') : UL l v w' := by
  obtain ⟨A, c, h1, h2⟩ := h
  exact ⟨A, c, h1, h2.below hb⟩
/-- .. of the call's own -/
def UO (N : Nat) (l : List Int) (v : Value) (w : World) : Prop := ∃ A c, v = .slice A l.length c ∧ w.ownsRow N 36 1 (.slice A l.length c) l.length (Tk.intsC .u64 l)
theorem UO.below {N : Nat} {l : List Int} {v : Value} {w w' : World} (h : UO N l v w) (hb : Below w.heap.size w w') : UO N l v w' := by
  obtain ⟨A, c, h1, h2⟩ := h
  exact ⟨A, c, h1, Tk.own_abide h2 fun k hk => hb.block k (h2.lt k hk).2⟩
/-- three rows -/
def U3 (a b c : List Int) (v : Value) (w : World) : Prop := ∃ g, v = .slice (some ⟨g, 0, none⟩) 3 3 ∧ Rw w (some ⟨g, 0, none⟩) [a, b, c]
theorem U3.below {a b c : List Int} {v : Value} {w w' : World} (h : U3 a b c v w) (hb : Below w.heap.size w w') : U3 a b c v w' := by
  obtain ⟨g, h1, h2⟩ := h
  exact ⟨g, h1, h2.below hb⟩
theorem cl_row {w : World} {g : Nat} {vs : List Value} {t : TypeId} (h : w.heap[g]? = some (.cells vs.toArray t (0, 0))) : Tk.Cl w (some ⟨g, 0, none⟩) vs := by
  refine .inr ⟨g, 0, rfl, fun j v hj => ?_⟩
  rw [Nat.zero_add]
  exact bx h j v (by simpa using hj)
theorem u3_new {w : World} {g : Nat} {t : TypeId} {A B C : Option Addr} {a b c : List Int} {ca cb cc : Nat} (h : w.heap[g]? = some (.cells #[.slice A a.length ca, .slice B b.length cb, .slice C c.length cc] t (0, 0))) (hA : Tk.Cl w A (Tk.intsC .u64 a)) (hB : Tk.Cl w B (Tk.intsC .u64 b)) (hC : Tk.Cl w C (Tk.intsC .u64 c)) : Rw w (some ⟨g, 0, none⟩) [a, b, c] := by
  refine .inr ⟨g, 0, rfl, fun j r hj => ?_⟩
  rw [Nat.zero_add]
  match j, hj with
  | 0, hj => simp at hj; subst hj; exact ⟨A, ca, bx h 0 _ rfl, hA⟩
  | 1, hj => simp at hj; subst hj; exact ⟨B, cb, bx h 1 _ rfl, hB⟩
  | 2, hj => simp at hj; subst hj; exact ⟨C, cc, bx h 2 _ rfl, hC⟩
theorem numsL_flat (xs ys : List Int) (h : HV) : flU [[h.zc, um h.sm], Tk.cntF xs h.P, Tk.cntF ys h.Q] 3 = numsL xs ys h := by simp [flU, numsL]
def NumP (w : World) (r : List Int) (e : Ending) (w' : World) : Prop := ∃ A c, e = .returned (.slice A r.length c) ∧ w'.ownsRow w.heap.size 36 1 (.slice A r.length c) r.length (Tk.intsC .u64 r) ∧ Below w.heap.size w w'
/-- a layout, wherever its indices are -/
structure Iw (xs : List Int) : Prop where
  asc : Tk.Asc xs
  inw : Tk.Inw xs
  len : xs.length ≤ 1000
theorem Ix.w {xs : List Int} {n : Nat} (h : Ix xs n) (hn : n ≤ 1000) : Iw xs := ⟨h.asc, h.inb.w h.asc, Nat.le_trans h.len hn⟩
theorem wrap_um (x : Int) : IntKind.u64.wrap x = um x := by rw [IntKind.wrap_u64]; rfl
set_option maxHeartbeats 4000000 in
set_option maxRecDepth 100000 in
theorem numbers_any (h : HV) (A0 B0 : Option Addr) (c0 d0 : Nat) (xs ys : List Int) (f1 : Int) (A1 : Option Addr) (n1 c1 : Nat) (f2 : Int) (B1 : Option Addr) (n2 d1 : Nat) (w : World) (hP : Bk w A0 h.P) (hQ : Bk w B0 h.Q) (kP : h.P.length ≤ c0 ∧ c0 ≤ 9223372036854775807) (kQ : h.Q.length ≤ d0 ∧ d0 ≤ 9223372036854775807)
    (hx : Iw xs) (hy : Iw ys) (hsm : inI64 h.sm) (hv : LyV w xs ys (.agg #[.int .i64 f1, .slice A1 n1 c1, .int .i64 f2, .slice B1 n2 d1])) :
    Calls Tryz.prog 26 #[hvA h A0 B0 c0 d0, .agg #[.int .i64 f1, .slice A1 n1 c1, .int .i64 f2, .slice B1 n2 d1]] w (NumP w (numsL xs ys h)) := by
  obtain ⟨A, Bb, c, d, ev, l1, l2⟩ := hv
  obtain ⟨rfl, ⟨rfl, rfl, rfl⟩, rfl, rfl, rfl, rfl⟩ : f1 = Tk.fstL xs ∧ (A1 = A ∧ n1 = (Tk.runsL xs).length ∧ c1 = c) ∧ f2 = Tk.fstL ys ∧ B1 = Bb ∧ n2 = (Tk.runsL ys).length ∧ d1 = d := by simpa using ev
  have hlx := hx.len
  have hly := hy.len
  have HC1 := Lib.hid (fun (W : World) (hb : Below w.heap.size w W) => Tk.counts_any A1 A0 c1 (Tk.runsL xs).length c0 xs.length (Tk.fstL xs) xs h.P W rfl rfl rfl (l1.below hb) hx.asc hx.inw (by omega) (bk_tk (hP.below hb)) kP.1 kP.2)
  have HC2 := Lib.hid (fun (W : World) (hb : Below w.heap.size w W) => Tk.counts_any B1 B0 d1 (Tk.runsL ys).length d0 ys.length (Tk.fstL ys) ys h.Q W rfl rfl rfl (l2.below hb) hy.asc hy.inw (by omega) (bk_tk (hQ.below hb)) kQ.1 kQ.2)
  obtain ⟨F1, hF1⟩ : ∃ f, Tk.fstL xs = f := ⟨_, rfl⟩
  obtain ⟨F2, hF2⟩ : ∃ f, Tk.fstL ys = f := ⟨_, rfl⟩
  obtain ⟨M1, hM1⟩ : ∃ f, (Tk.runsL xs).length = f := ⟨_, rfl⟩
  obtain ⟨M2, hM2⟩ : ∃ f, (Tk.runsL ys).length = f := ⟨_, rfl⟩
  rw [hF1, hM1] at HC1 ⊢
  rw [hF2, hM2] at HC2 ⊢
  obtain ⟨X, hX⟩ : ∃ X, Tk.cntF xs h.P = X := ⟨_, rfl⟩
  obtain ⟨Y, hY⟩ : ∃ Y, Tk.cntF ys h.Q = Y := ⟨_, rfl⟩
  have hXl : X.length = xs.length := by rw [← hX, Tk.cntF_length]
  have hYl : Y.length = ys.length := by rw [← hY, Tk.cntF_length]
  have hfl := numsL_flat xs ys h
  rw [hX, hY] at hfl
  unfold Tk.CtPost at HC1 HC2
  rw [hX, ← hXl] at HC1
  rw [hY, ← hYl] at HC2
  obtain ⟨R, hR⟩ : ∃ R, numsL xs ys h = R := ⟨_, rfl⟩
  rw [hR] at hfl ⊢
  obtain ⟨hk, hs, hz, Z, hct, S, P, Q⟩ := h
  simp only at HC1 HC2 hfl hsm kP kQ hX hY
  have hS1 : -9223372036854775808 ≤ S ∧ S ≤ 9223372036854775807 := by unfold inI64 at hsm; exact hsm
  obtain ⟨U, hU⟩ : ∃ U, um S = U := ⟨_, rfl⟩
  rw [hU] at hfl
  have hwu : IntKind.u64.wrap S = U := (wrap_um S).trans hU
  have HFL := Lib.hid hfl
  have HLL := Lib.hid (show X.length ≤ 1000 ∧ Y.length ≤ 1000 from ⟨by omega, by omega⟩)
  unfold hvA
  simp only
  obtain ⟨nP, hnP⟩ : ∃ n, P.length = n := ⟨_, rfl⟩
  obtain ⟨nQ, hnQ⟩ : ∃ n, Q.length = n := ⟨_, rfl⟩
  rw [hnP] at HC1 ⊢
  rw [hnQ] at HC2 ⊢
  clear ev hx hy l1 l2 hP hQ kP kQ hF1 hF2 hM1 hM2 hX hY hR hU hfl hsm hlx hly hXl hYl hnP hnQ
  obtain ⟨g, hg⟩ : ∃ g, w.heap.size = g := ⟨_, rfl⟩
  obtain ⟨w2, hw2⟩ : ∃ W, (w.alloc (.cells #[.int .i64 hk, .int .i64 hs, .int .i64 hz, .int .u64 Z, .int .u64 hct, .int .i64 S, .slice A0 nP c0, .slice B0 nQ d0] 39)).alloc (.cells #[.int .i64 F1, .slice A1 M1 c1, .int .i64 F2, .slice B1 M2 d1] 54) = W := ⟨_, rfl⟩
  have hb1 : Below w.heap.size w w2 := by rw [← hw2]; exact ((Below.refl _ _).alloc (Nat.le_refl _) _).alloc (by simp) _
  have hsz1 : w2.heap.size = g + 2 := by rw [← hw2]; simp [hg]
  have hbx : w2.heap[g]? = some (.cells #[.int .i64 hk, .int .i64 hs, .int .i64 hz, .int .u64 Z, .int .u64 hct, .int .i64 S, .slice A0 nP c0, .slice B0 nQ d0] 39 (0, 0)) := by
    rw [← hw2, ← hg, Below.heap_alloc _ _ _ (by simp)]; exact heap_alloc_new w _
  have hby : w2.heap[g + 1]? = some (.cells #[.int .i64 F1, .slice A1 M1 c1, .int .i64 F2, .slice B1 M2 d1] 54 (0, 0)) := by
    rw [← hw2, ← hg]
    have := heap_alloc_new (w.alloc (.cells #[.int .i64 hk, .int .i64 hs, .int .i64 hz, .int .u64 Z, .int .u64 hct, .int .i64 S, .slice A0 nP c0, .slice B0 nQ d0] 39)) (.cells #[.int .i64 F1, .slice A1 M1 c1, .int .i64 F2, .slice B1 M2 d1] 54)
    simpa using this
  have HX := Lib.hid (And.intro hbx hby)
  have HB := Lib.hid hb1
  have HSZ := Lib.hid hsz1
  have HG := Lib.hid hg
  clear hbx hby hb1 hsz1
  go_enter Tryz.func26, Tryz.ntmps26
  go_wp2_with fail

  clear hw2 hg
  refine Rg.wp_region_inv (R := fun sl v w => match sl with
      | 5 => v = .pointer (some ⟨g, 3, none⟩)
      | 6 => v = .int .u64 Z
      | 7 => v = .pointer (some ⟨g, 5, none⟩)
      | 8 => v = .int .i64 S
      | 9 => v = .int .u64 U
      | 10 => UL [Z, U] v w
      | 11 => v = .pointer (some ⟨g + 1, 0, none⟩)
      | 12 => v = .agg #[.int .i64 F1, .slice A1 M1 c1]
      | 13 => v = .pointer (some ⟨g, 6, none⟩)
      | 14 => v = .slice A0 nP c0
      | 15 => UL X v w
      | 16 => v = .pointer (some ⟨g + 1, 2, none⟩)
      | 17 => v = .agg #[.int .i64 F2, .slice B1 M2 d1]
      | 18 => v = .pointer (some ⟨g, 7, none⟩)
      | 19 => v = .slice B0 nQ d0
      | 20 => UL Y v w
      | 21 => U3 [Z, U] X Y v w
      | 22 => UO w2.heap.size R v w
      | 4 => UO w2.heap.size R v w
      | _ => True) [5, 6, 7, 8, 9, 10, 11, 12, 13, 14, 15, 16, 17, 18, 19, 20, 21, 22, 4] 23 [false, false, false, false, true, true, true, true, true, true, true, true, true, true, true, true, true, true, true, true, true, true, true] (by kernel_rfl) rfl (by kernel_rfl) (by kernel_rfl) (by kernel_rfl) (by kernel_rfl) (by kernel_rfl) ?mono ?good ?done
  case mono =>
    refine List.forall_mem_cons.2 ⟨fun _ _ _ _ _ h => h, ?_⟩
    refine List.forall_mem_cons.2 ⟨fun _ _ _ _ _ h => h, ?_⟩
    refine List.forall_mem_cons.2 ⟨fun _ _ _ _ _ h => h, ?_⟩
    refine List.forall_mem_cons.2 ⟨fun _ _ _ _ _ h => h, ?_⟩
    refine List.forall_mem_cons.2 ⟨fun _ _ _ _ _ h => h, ?_⟩
    refine List.forall_mem_cons.2 ⟨fun _ _ _ _ hb h => UL.below h hb, ?_⟩
    refine List.forall_mem_cons.2 ⟨fun _ _ _ _ _ h => h, ?_⟩
    refine List.forall_mem_cons.2 ⟨fun _ _ _ _ _ h => h, ?_⟩
    refine List.forall_mem_cons.2 ⟨fun _ _ _ _ _ h => h, ?_⟩
    refine List.forall_mem_cons.2 ⟨fun _ _ _ _ _ h => h, ?_⟩
    refine List.forall_mem_cons.2 ⟨fun _ _ _ _ hb h => UL.below h hb, ?_⟩
    refine List.forall_mem_cons.2 ⟨fun _ _ _ _ _ h => h, ?_⟩
    refine List.forall_mem_cons.2 ⟨fun _ _ _ _ _ h => h, ?_⟩
    refine List.forall_mem_cons.2 ⟨fun _ _ _ _ _ h => h, ?_⟩
    refine List.forall_mem_cons.2 ⟨fun _ _ _ _ _ h => h, ?_⟩
    refine List.forall_mem_cons.2 ⟨fun _ _ _ _ hb h => UL.below h hb, ?_⟩
    refine List.forall_mem_cons.2 ⟨fun _ _ _ _ hb h => U3.below h hb, ?_⟩
    refine List.forall_mem_cons.2 ⟨fun _ _ _ _ hb h => UO.below h hb, ?_⟩
    refine List.forall_mem_cons.2 ⟨fun _ _ _ _ hb h => UO.below h hb, ?_⟩
    exact fun _ h => absurd h (by simp)
  case good =>
    refine Rg.good_cons ?_ ?_
    · intro ac w' cx hn
      have e2 := cx.at_ 2 (by kernel_rfl) rfl
      refine .inl ⟨(Rg.wanted_none rfl), fun K hK => ?_⟩
      go_simp
      exact hK _ _ (Below.refl _ _) (fun t ht => by injection ht with ht; subst ht; exact rfl)
    refine Rg.good_cons ?_ ?_
    · intro ac w' cx hn
      obtain ⟨v5, e5, r5⟩ := hn 5 (Rg.mem_of (by kernel_rfl))
      obtain rfl : v5 = .pointer (some ⟨g, 3, none⟩) := r5
      have q0 := bx ((cx.bel.block g (by have := HSZ.out; omega)).trans HX.out.1) 3 _ rfl
      refine .inl ⟨(Rg.wanted_none rfl), fun K hK => ?_⟩
      go_simp
      exact hK _ _ (Below.refl _ _) (fun t ht => by injection ht with ht; subst ht; exact rfl)
    refine Rg.good_cons ?_ ?_
    · intro ac w' cx hn
      have e2 := cx.at_ 2 (by kernel_rfl) rfl
      refine .inl ⟨(Rg.wanted_none rfl), fun K hK => ?_⟩
      go_simp
      exact hK _ _ (Below.refl _ _) (fun t ht => by injection ht with ht; subst ht; exact rfl)
    refine Rg.good_cons ?_ ?_
    · intro ac w' cx hn
      obtain ⟨v7, e7, r7⟩ := hn 7 (Rg.mem_of (by kernel_rfl))
      obtain rfl : v7 = .pointer (some ⟨g, 5, none⟩) := r7
      have q0 := bx ((cx.bel.block g (by have := HSZ.out; omega)).trans HX.out.1) 5 _ rfl
      refine .inl ⟨(Rg.wanted_none rfl), fun K hK => ?_⟩
      go_simp
      exact hK _ _ (Below.refl _ _) (fun t ht => by injection ht with ht; subst ht; exact rfl)
    refine Rg.good_cons ?_ ?_
    · intro ac w' cx hn
      obtain ⟨v8, e8, r8⟩ := hn 8 (Rg.mem_of (by kernel_rfl))
      obtain rfl : v8 = .int .i64 S := r8
      refine .inl ⟨(Rg.wanted_none rfl), fun K hK => ?_⟩
      go_simp
      exact hK _ _ (Below.refl _ _) (fun t ht => by injection ht with ht; subst ht; exact rfl)
    refine Rg.good_cons ?_ ?_
    · intro ac w' cx hn
      obtain ⟨v6, e6, r6⟩ := hn 6 (Rg.mem_of (by kernel_rfl))
      obtain rfl : v6 = .int .u64 Z := r6
      obtain ⟨v9, e9, r9⟩ := hn 9 (Rg.mem_of (by kernel_rfl))
      obtain rfl : v9 = .int .u64 U := r9
      refine .inl ⟨(Rg.wanted_none rfl), fun K hK => ?_⟩
      go_simp
      exact hK _ _ ((Below.refl _ _).alloc (Nat.le_refl _) _) (fun t ht => by injection ht with ht; subst ht; exact ⟨some ⟨w'.heap.size, 0, none⟩, 2, rfl, cl_row (heap_alloc_new w' _)⟩)
    refine Rg.good_cons ?_ ?_
    · intro ac w' cx hn
      have e3 := cx.at_ 3 (by kernel_rfl) rfl
      refine .inl ⟨(Rg.wanted_none rfl), fun K hK => ?_⟩
      go_simp
      exact hK _ _ (Below.refl _ _) (fun t ht => by injection ht with ht; subst ht; exact rfl)
    refine Rg.good_cons ?_ ?_
    · intro ac w' cx hn
      obtain ⟨v11, e11, r11⟩ := hn 11 (Rg.mem_of (by kernel_rfl))
      obtain rfl : v11 = .pointer (some ⟨g + 1, 0, none⟩) := r11
      have q0 := bx ((cx.bel.block (g + 1) (by have := HSZ.out; omega)).trans HX.out.2) 0 _ rfl; have q1 := bx ((cx.bel.block (g + 1) (by have := HSZ.out; omega)).trans HX.out.2) 1 _ rfl
      refine .inl ⟨(Rg.wanted_none rfl), fun K hK => ?_⟩
      go_simp
      exact hK _ _ (Below.refl _ _) (fun t ht => by injection ht with ht; subst ht; exact rfl)
    refine Rg.good_cons ?_ ?_
    · intro ac w' cx hn
      have e2 := cx.at_ 2 (by kernel_rfl) rfl
      refine .inl ⟨(Rg.wanted_none rfl), fun K hK => ?_⟩
      go_simp
      exact hK _ _ (Below.refl _ _) (fun t ht => by injection ht with ht; subst ht; exact rfl)
    refine Rg.good_cons ?_ ?_
    · intro ac w' cx hn
      obtain ⟨v13, e13, r13⟩ := hn 13 (Rg.mem_of (by kernel_rfl))
      obtain rfl : v13 = .pointer (some ⟨g, 6, none⟩) := r13
      have q0 := bx ((cx.bel.block g (by have := HSZ.out; omega)).trans HX.out.1) 6 _ rfl
      refine .inl ⟨(Rg.wanted_none rfl), fun K hK => ?_⟩
      go_simp
      exact hK _ _ (Below.refl _ _) (fun t ht => by injection ht with ht; subst ht; exact rfl)
    refine Rg.good_cons ?_ ?_
    · intro ac w' cx hn
      obtain ⟨v12, e12, r12⟩ := hn 12 (Rg.mem_of (by kernel_rfl))
      obtain rfl : v12 = .agg #[.int .i64 F1, .slice A1 M1 c1] := r12
      obtain ⟨v14, e14, r14⟩ := hn 14 (Rg.mem_of (by kernel_rfl))
      obtain rfl : v14 = .slice A0 nP c0 := r14
      refine .inl ⟨(Rg.wanted_none rfl), fun K hK => ?_⟩
      go_simp
      refine (HC1.out w' (HB.out.trans (cx.bel.mono HB.out.size))).mono ?_
      rintro e w2' ⟨gg, rfl, hl, hb⟩
      exact hK _ _ hb (fun t ht => by injection ht with ht; subst ht; exact ⟨_, _, rfl, hl⟩)
    refine Rg.good_cons ?_ ?_
    · intro ac w' cx hn
      have e3 := cx.at_ 3 (by kernel_rfl) rfl
      refine .inl ⟨(Rg.wanted_none rfl), fun K hK => ?_⟩
      go_simp
      exact hK _ _ (Below.refl _ _) (fun t ht => by injection ht with ht; subst ht; exact rfl)
    refine Rg.good_cons ?_ ?_
    · intro ac w' cx hn
      obtain ⟨v16, e16, r16⟩ := hn 16 (Rg.mem_of (by kernel_rfl))
      obtain rfl : v16 = .pointer (some ⟨g + 1, 2, none⟩) := r16
      have q0 := bx ((cx.bel.block (g + 1) (by have := HSZ.out; omega)).trans HX.out.2) 2 _ rfl; have q1 := bx ((cx.bel.block (g + 1) (by have := HSZ.out; omega)).trans HX.out.2) 3 _ rfl
      refine .inl ⟨(Rg.wanted_none rfl), fun K hK => ?_⟩
      go_simp
      exact hK _ _ (Below.refl _ _) (fun t ht => by injection ht with ht; subst ht; exact rfl)
    refine Rg.good_cons ?_ ?_
    · intro ac w' cx hn
      have e2 := cx.at_ 2 (by kernel_rfl) rfl
      refine .inl ⟨(Rg.wanted_none rfl), fun K hK => ?_⟩
      go_simp
      exact hK _ _ (Below.refl _ _) (fun t ht => by injection ht with ht; subst ht; exact rfl)
    refine Rg.good_cons ?_ ?_
    · intro ac w' cx hn
      obtain ⟨v18, e18, r18⟩ := hn 18 (Rg.mem_of (by kernel_rfl))
      obtain rfl : v18 = .pointer (some ⟨g, 7, none⟩) := r18
      have q0 := bx ((cx.bel.block g (by have := HSZ.out; omega)).trans HX.out.1) 7 _ rfl
      refine .inl ⟨(Rg.wanted_none rfl), fun K hK => ?_⟩
      go_simp
      exact hK _ _ (Below.refl _ _) (fun t ht => by injection ht with ht; subst ht; exact rfl)
    refine Rg.good_cons ?_ ?_
    · intro ac w' cx hn
      obtain ⟨v17, e17, r17⟩ := hn 17 (Rg.mem_of (by kernel_rfl))
      obtain rfl : v17 = .agg #[.int .i64 F2, .slice B1 M2 d1] := r17
      obtain ⟨v19, e19, r19⟩ := hn 19 (Rg.mem_of (by kernel_rfl))
      obtain rfl : v19 = .slice B0 nQ d0 := r19
      refine .inl ⟨(Rg.wanted_none rfl), fun K hK => ?_⟩
      go_simp
      refine (HC2.out w' (HB.out.trans (cx.bel.mono HB.out.size))).mono ?_
      rintro e w2' ⟨gg, rfl, hl, hb⟩
      exact hK _ _ hb (fun t ht => by injection ht with ht; subst ht; exact ⟨_, _, rfl, hl⟩)
    refine Rg.good_cons ?_ ?_
    · intro ac w' cx hn
      obtain ⟨v10, e10, r10⟩ := hn 10 (Rg.mem_of (by kernel_rfl))
      replace r10 : UL [Z, U] v10 w' := r10
      obtain ⟨v15, e15, r15⟩ := hn 15 (Rg.mem_of (by kernel_rfl))
      replace r15 : UL X v15 w' := r15
      obtain ⟨v20, e20, r20⟩ := hn 20 (Rg.mem_of (by kernel_rfl))
      replace r20 : UL Y v20 w' := r20
      refine .inl ⟨(Rg.wanted_none rfl), fun K hK => ?_⟩
      obtain ⟨Aa, ca, rfl, ha⟩ := r10
      obtain ⟨Ab, cb, rfl, hbb⟩ := r15
      obtain ⟨Ac, cc, rfl, hc⟩ := r20
      go_simp
      exact hK _ _ ((Below.refl _ _).alloc (Nat.le_refl _) _) (fun t ht => by injection ht with ht; subst ht; exact ⟨w'.heap.size, rfl, u3_new (heap_alloc_new w' _) (ha.below ((Below.refl _ _).alloc (Nat.le_refl _) _)) (hbb.below ((Below.refl _ _).alloc (Nat.le_refl _) _)) (hc.below ((Below.refl _ _).alloc (Nat.le_refl _) _))⟩)
    refine Rg.good_cons ?_ ?_
    · intro ac w' cx hn
      obtain ⟨v21, e21, r21⟩ := hn 21 (Rg.mem_of (by kernel_rfl))
      replace r21 : U3 [Z, U] X Y v21 w' := r21
      refine .inl ⟨(Rg.wanted_none rfl), fun K hK => ?_⟩
      obtain ⟨gg, rfl, hrw⟩ := r21
      go_simp
      have hcc := concatU_any (some ⟨gg, 0, none⟩) 3 3 _ w' hrw rfl (by show (flU [[Z, U], X, Y] 3).length ≤ _; have := HLL.out; simp [flU]; omega) (by decide)
      have e3 : flU [[Z, U], X, Y] [[Z, U], X, Y].length = R := HFL.out
      rw [e3] at hcc
      refine hcc.mono ?_
      rintro e w2' ⟨A', c', rfl, hl, hb⟩
      exact hK _ _ hb (fun t ht => by injection ht with ht; subst ht; exact ⟨A', c', rfl, Bw.ownsRow_base hl cx.bel.size⟩)
    refine Rg.good_cons ?_ ?_
    · intro ac w' cx hn
      obtain ⟨v22, e22, r22⟩ := hn 22 (Rg.mem_of (by kernel_rfl))
      replace r22 : UO w2.heap.size R v22 w' := r22
      refine .inl ⟨(Rg.wanted_none rfl), fun K hK => ?_⟩
      go_simp
      exact hK _ _ (Below.refl _ _) (fun t ht => by injection ht with ht; subst ht; exact r22)
    exact Rg.good_nil
  case done =>
    intro u w6 hb6 hr
    have q4 : UO w2.heap.size R (u 4) w6 := hr 4 (by simp)
    obtain ⟨A', c', q4', hl⟩ := q4
    simp only [Rg.fillL_cons, Rg.fillL_nil, if_true, if_false, Bool.false_eq_true, q4', List.drop_succ_cons, List.drop_zero]
    have HE := Lib.hid (show NumP w R (.returned (.slice A' R.length c')) w6 from ⟨A', c', rfl, Bw.ownsRow_base hl HB.out.size, HB.out.trans (hb6.mono HB.out.size)⟩)
    clear hr hb6 hl
    go_wp2_with fail
    go_ret
    exact HE.out
end Go.Proofs.YtakomfnajeolcaaGreatDoor.Ch


/- layTime and layRow: a time and a row of numbers are laid. -/
namespace Go.Proofs.YtakomfnajeolcaaGreatDoor.Ch
open Go.RowKit Go.Sort Go.Proofs.YtakomfnajeolcaaGreatDoor.En
set_option linter.unusedVariables false

theorem nextT_bd : ∀ (R : List Int), (∀ x ∈ R, 0 ≤ x ∧ x ≤ 5000000000000) → -10000000000000 ≤ nextT R ∧ nextT R ≤ 10000000000000
  | [], _ => by simp [nextT]
  | [a], h => by have := h a (by simp); simp only [nextT]; omega
  | a :: b :: R, h => by have := h a (by simp); have := h b (by simp); simp only [nextT]; omega
theorem timeL_few {R : List Int} {t : Int} (h : R.length ≤ 1) : timeL R t = Tk.codeL (t - nextT R).toNat := by
  match R, h with
  | [], _ => rfl
  | [a], _ => rfl
theorem timeL_more {R : List Int} {t : Int} (h : 2 ≤ R.length) : timeL R t = intL (t - nextT R) := by
  match R, h with
  | a :: b :: R, _ => rfl
theorem WPost.trans {G : Nat → Prop} {W0 : World} {p B : Nat} {l c : List Bool} {w w1 : World} {e : Ending} {w' : World} (hb : KpG G w w1) (h : WPost G W0 p B l c w1 e w') : WPost G W0 p B l c w e w' := ⟨h.1, h.2.1, hb.trans h.2.2⟩
set_option maxRecDepth 100000 in
theorem laytime_g (D : Option Addr) (n cp : Nat) (l : List SV) (t : Int) (G : Nat → Prop) (W0 : World) (p B : Nat) (L : List Bool) (w : World) (h : WG G W0 p B L w) (hp : W0.heap.size ≤ p) (hT : Tk.Tab W0) (hL : L.length ≤ 8000000) (hn : n = l.length) (hn9 : n ≤ 1000) (hS : Sm W0 D l)
    (ht : ∀ s ∈ l, 0 ≤ s.t ∧ s.t ≤ 1099511627776) (t0 : 0 ≤ t) (t1 : t ≤ 1099511627776) (hle : n ≤ 1 → nextT (l.map (·.t)).reverse ≤ t) :
    Calls Tryz.prog 25 #[.pointer (some ⟨p, 0, none⟩), .slice D n cp, .int .i64 t] w (WPost G W0 p B L (timeL (l.map (·.t)).reverse t) w) := by
  have HN := Lib.hid (fun (w1 : World) (hb : Below W0.heap.size W0 w1) => nexttime_any D n cp l w1 hn hn9 (hS.below hb) (fun s hs => by have := ht s hs; omega))
  obtain ⟨b0, b1⟩ := nextT_bd (l.map (·.t)).reverse (fun x hx => by
    simp only [List.mem_reverse, List.mem_map] at hx
    obtain ⟨s, hs, rfl⟩ := hx
    have := ht s hs; omega)
  have hlen : (l.map (·.t)).reverse.length = n := by simp [hn]
  obtain ⟨R, hR⟩ : ∃ R, (l.map (·.t)).reverse = R := ⟨_, rfl⟩
  rw [hR] at HN b0 b1 hlen hle ⊢
  obtain ⟨N, hN⟩ : ∃ N, nextT R = N := ⟨_, rfl⟩
  rw [hN] at HN b0 b1 hle
  have HG := Lib.hid h
  have HR := Lib.hid (And.intro hlen hN)
  clear h hS ht hn hR hN hlen
  by_cases h1 : n ≤ 1
  · have hle := hle h1
    have hm0 : 0 ≤ t - N := by omega
    have hm1 : t - N ≤ 18446744073709551615 := by omega
    have HE := Lib.hid (show timeL R t = Tk.codeL (t - N).toNat by rw [timeL_few (by rw [HR.out.1]; omega), HR.out.2])
    have h0 : ((n : Int) == 0) = true ∨ ((n : Int) == 0) = false ∧ ((n : Int) == 1) = true := by
      rcases (show n = 0 ∨ n = 1 by omega) with h | h
      · left; simp; omega
      · right; constructor <;> simp <;> omega
    rw [HE.out]
    rcases h0 with h0 | ⟨h0, h2⟩
    · go_enter Tryz.func25, Tryz.ntmps25
      go_wp2_with fail
      refine (HN.out _ HG.out.bel).mono ?_
      rintro e w1 ⟨rfl, hb⟩
      have HB := Lib.hid hb
      clear hb
      go_wp2_with fail
      refine (count_g (t - N) G W0 p B L _ (HG.out.below HB.out) hp hT hL hm0 hm1).mono ?_
      rintro e w2 ⟨rfl, r1, r2⟩
      have R1 := Lib.hid (And.intro r1 r2)
      clear r1 r2
      go_wp2_with fail
      go_end0
      exact ⟨rfl, R1.out.1, (KpG.of_below (fun g hg => HG.out.lt hg) HB.out).trans R1.out.2⟩
    · go_enter Tryz.func25, Tryz.ntmps25
      go_wp2_with fail
      refine (HN.out _ HG.out.bel).mono ?_
      rintro e w1 ⟨rfl, hb⟩
      have HB := Lib.hid hb
      clear hb
      go_wp2_with fail
      refine (count_g (t - N) G W0 p B L _ (HG.out.below HB.out) hp hT hL hm0 hm1).mono ?_
      rintro e w2 ⟨rfl, r1, r2⟩
      have R1 := Lib.hid (And.intro r1 r2)
      clear r1 r2
      go_wp2_with fail
      go_end0
      exact ⟨rfl, R1.out.1, (KpG.of_below (fun g hg => HG.out.lt hg) HB.out).trans R1.out.2⟩
  · have HE := Lib.hid (show timeL R t = intL (t - N) by rw [timeL_more (by rw [HR.out.1]; omega), HR.out.2])
    have h0 : ((n : Int) == 0) = false := by simp; omega
    have h2 : ((n : Int) == 1) = false := by simp; omega
    rw [HE.out]
    go_enter Tryz.func25, Tryz.ntmps25
    go_wp2_with fail
    refine (HN.out _ HG.out.bel).mono ?_
    rintro e w1 ⟨rfl, hb⟩
    have HB := Lib.hid hb
    clear hb
    go_wp2_with fail
    refine (int_g (t - N) G W0 p B L _ (HG.out.below HB.out) hp hT hL (by omega) (by omega)).mono ?_
    rintro e w2 ⟨rfl, r1, r2⟩
    have R1 := Lib.hid (And.intro r1 r2)
    clear r1 r2
    go_wp2_with fail
    go_end0
    exact ⟨rfl, R1.out.1, (KpG.of_below (fun g hg => HG.out.lt hg) HB.out).trans R1.out.2⟩
/-! a row -/
theorem rowL_snoc {first : Bool} : ∀ {N r : List Int} {k : Nat} {a x : Int}, N[k]? = some a → r[k]? = some x → rowL first (N.take (k + 1)) (r.take (k + 1)) = rowL first (N.take k) (r.take k) ++ numL first a x
  | [], r, k, a, x, h, _ => by simp at h
  | n :: N, [], k, a, x, _, h => by simp at h
  | n :: N, y :: r, 0, a, x, h, h' => by
    simp at h h'
    subst h h'
    simp [rowL]
  | n :: N, y :: r, k + 1, a, x, h, h' => by
    have ih := rowL_snoc (first := first) (N := N) (r := r) (k := k) (a := a) (x := x) (by simpa using h) (by simpa using h')
    rw [List.take_succ_cons, List.take_succ_cons, List.take_succ_cons, List.take_succ_cons]
    simp only [rowL]
    rw [ih, List.append_assoc]
theorem numL_length (first : Bool) (a x : Int) : (numL first a x).length ≤ 71 := by
  unfold numL intL
  split
  · exact Tk.codeL_length _
  · exact Tk.codeL_length _
theorem rowL_length (first : Bool) : ∀ (N r : List Int), (rowL first N r).length ≤ 71 * r.length
  | [], r => by simp [rowL]
  | n :: N, [] => by simp [rowL]
  | n :: N, x :: r => by
    have h1 := numL_length first n x
    have h2 := rowL_length first N r
    simp only [rowL, List.length_append, List.length_cons]
    omega
def LrRel (G : Nat → Prop) (W0 : World) (p B : Nat) (L : List Bool) (first : Bool) (N r : List Int) (w : World) (i : Value) (wr : World) : Prop :=
  ∃ k : Nat, k ≤ r.length ∧ i = .int .i64 (k : Int) ∧ WG G W0 p B (L ++ rowL first (N.take k) (r.take k)) wr ∧ KpG G w wr
set_option maxHeartbeats 1000000 in
set_option maxRecDepth 100000 in
theorem layrow_g (D : Option Addr) (n cp : Nat) (Q : List (List Int)) (A : Option Addr) (m cr : Nat) (r : List Int) (G : Nat → Prop) (W0 : World) (p B : Nat) (L : List Bool) (w : World) (h : WG G W0 p B L w) (hp : W0.heap.size ≤ p) (hT : Tk.Tab W0) (hL : L.length ≤ 7000000) (hn : n = Q.length) (hn9 : n ≤ 1000)
    (hQ : RwG G w D Q) (hQr : ∀ q ∈ Q, RowR m q) (hm : m ≤ 10000) (hr : RowR m r) (hA : Tk.Cl w A (Tk.intsC .u64 r)) (hAg : ∀ a, A = some a → G a.block) :
    Calls Tryz.prog 27 #[.pointer (some ⟨p, 0, none⟩), .slice D n cp, .slice A m cr] w (WPost G W0 p B L (rowL Q.reverse.isEmpty (nextR m Q.reverse) r) w) := by
  obtain ⟨F, hF⟩ : ∃ F, Q.reverse.isEmpty = F := ⟨_, rfl⟩
  have hFn : F = decide (n = 0) := by rw [← hF, List.isEmpty_reverse, hn]; cases Q <;> simp
  have hnl : (nextR m Q.reverse).length = m := nextR_length _ (fun q hq => (hQr q (by simpa using hq)).1)
  have HNX := Lib.hid (fun (w1 : World) (k : KpG G w w1) (i : Nat) (z : Int) (hz : (nextR m Q.reverse)[i]? = some z) => nextnum_any D n cp Q m i z w1 hn hn9 (hQ.kept k).rw hQr (by omega) hz)
  obtain ⟨N, hN⟩ : ∃ N, nextR m Q.reverse = N := ⟨_, rfl⟩
  rw [hN] at hnl HNX ⊢
  rw [hF]
  have HC := Lib.hid (fun (w1 : World) (k : KpG G w w1) => cl_g hA hAg k)
  have HR := Lib.hid hr
  have HNL := Lib.hid hnl
  have HG := Lib.hid h
  have hrl : r.length = m := hr.1
  have HRL := Lib.hid hrl
  clear hQ hQr hr hA hAg hn hF hN h hnl
  go_enter Tryz.func27, Tryz.ntmps27
  go_wp2_with fail
  go_loopw [11] (fun i wr => LrRel G W0 p B L F N r w i wr) (fun i _ => m - (intOf i).toNat)
  case atStart => exact ⟨0, by omega, rfl, by simpa [rowL] using HG.out, KpG.refl _ _⟩
  case round =>
    obtain ⟨k, hk, rfl, hwg, hkp⟩ := hrel
    have HW := Lib.hid hwg
    have HK := Lib.hid hkp
    rw [hrl] at hk
    clear hwg hkp
    by_cases hlt : k < m
    · obtain ⟨x, hx⟩ := getElem?_lt (l := r) (k := k) (by omega)
      obtain ⟨z, hz⟩ := getElem?_lt (l := N) (k := k) (by rw [HNL.out]; exact hlt)
      obtain ⟨b, o, rfl, x0⟩ := cl_num (HC.out _ HK.out) hx
      obtain ⟨xb0, xb1⟩ := HR.out.2 x (List.mem_of_getElem? hx)
      have HS := Lib.hid (rowL_snoc (first := F) hz hx)
      have HZ := Lib.hid hz
      have hll : (L ++ rowL F (N.take k) (r.take k)).length ≤ 8000000 := by
        have := rowL_length F (N.take k) (r.take k)
        rw [List.length_append]
        rw [List.length_take] at this
        omega
      obtain ⟨um0, um1⟩ := um_bd (x - z)
      obtain ⟨sg0, sg1⟩ := sgn_bd (x - z)
      have hw1 : IntKind.u64.wrap (x - z) = um (x - z) := by rw [IntKind.wrap_u64]; rfl
      have hw2 : IntKind.i64.wrap (um (x - z)) = sgn (x - z) := by
        unfold sgn
        have := um_bd (x - z)
        rw [IntKind.wrap_i64]
        split <;> omega
      obtain ⟨U, hU⟩ : ∃ U, um (x - z) = U := ⟨_, rfl⟩
      obtain ⟨V, hV⟩ : ∃ V, sgn (x - z) = V := ⟨_, rfl⟩
      rw [hU] at um0 um1 hw1 hw2
      rw [hV] at sg0 sg1 hw2
      have HUV := Lib.hid (And.intro hU hV)
      clear hx hz hU hV
      go_wp2_with fail
      refine (HNX.out _ HK.out k z HZ.out).mono ?_
      rintro e w1 ⟨rfl, hb⟩
      have HW1 := Lib.hid (HW.out.below hb)
      have HK1 := Lib.hid (HK.out.trans (KpG.of_below (fun g hg => HW.out.lt hg) hb))
      clear hb
      by_cases h0 : n = 0
      · have h0' : ((n : Int) == 0) = true := by simp; exact h0
        have HF := Lib.hid (show numL F z x = Tk.codeL U.toNat from by rw [hFn, decide_eq_true h0]; unfold numL; rw [if_pos rfl, HUV.out.1])
        clear h0
        go_wp2_with fail
        refine (count_g U G W0 p B _ _ HW1.out hp hT hll um0 um1).mono ?_
        rintro e w2 ⟨rfl, r1, r2⟩
        have R1 := Lib.hid (And.intro r1 (HK1.out.trans r2))
        clear r1 r2
        go_wp2_with fail
        go_roundw
        case rel => exact ⟨k + 1, by omega, by go_num, by rw [HS.out, HF.out, ← List.append_assoc]; exact R1.out.1, R1.out.2⟩
        case measure => simp [intOf]; omega
      · have h0' : ((n : Int) == 0) = false := by simp; exact h0
        have HF := Lib.hid (show numL F z x = intL V from by rw [hFn, decide_eq_false h0]; unfold numL; rw [if_neg (by decide), HUV.out.2])
        clear h0
        go_wp2_with fail
        refine (int_g V G W0 p B _ _ HW1.out hp hT hll sg0 sg1).mono ?_
        rintro e w2 ⟨rfl, r1, r2⟩
        have R1 := Lib.hid (And.intro r1 (HK1.out.trans r2))
        clear r1 r2
        go_wp2_with fail
        go_roundw
        case rel => exact ⟨k + 1, by omega, by go_num, by rw [HS.out, HF.out, ← List.append_assoc]; exact R1.out.1, R1.out.2⟩
        case measure => simp [intOf]; omega
    · obtain rfl : k = m := by omega
      have HE := Lib.hid (show N.take k = N ∧ r.take k = r from ⟨List.take_of_length_le (by rw [HNL.out]; exact Nat.le_refl _), List.take_of_length_le (by omega)⟩)
      go_wp2_with fail
      go_end0
      exact ⟨rfl, by have := HW.out; rw [HE.out.1, HE.out.2] at this; exact this, HK.out⟩
end Go.Proofs.YtakomfnajeolcaaGreatDoor.Ch
