import Derived.Test.YtakomfnajeolcaaGreatDoorCtA32
set_option linter.unusedVariables false
/- What a chunk knows of samples ahead, in memory: layouts; with, right. -/
namespace Go.Proofs.YtakomfnajeolcaaGreatDoor.Ch
open Go.RowKit Go.Sort Go.Proofs.YtakomfnajeolcaaGreatDoor.En
set_option linter.unusedVariables false

theorem bk_tk {w : World} {A : Option Addr} {l : List (Int × Int)} (h : Bk w A l) : Tk.Cl w A (Tk.twoC .u64 l) := by
  rcases h.2.2 with h0 | ⟨b, off, e, hc⟩
  · rw [List.eq_nil_of_length_eq_zero h0]; exact .inl rfl
  · refine .inr ⟨b, off, e, fun j v hj => ?_⟩
    have hjl : j < l.length * 2 := by rw [← Tk.twoC_length .u64]; exact (List.getElem?_eq_some_iff.1 hj).1
    obtain ⟨p, hp⟩ := getElem?_lt (l := l) (k := j / 2) (by omega)
    obtain ⟨c0, c1⟩ := hc (j / 2) p hp
    obtain ⟨t0, t1⟩ := Tk.twoC_at (k := .u64) hp
    rcases (show j = j / 2 * 2 ∨ j = j / 2 * 2 + 1 by omega) with e' | e'
    · rw [e', t0] at hj
      injection hj with hj
      rw [e', ← hj]
      exact c0
    · rw [e', t1] at hj
      injection hj with hj
      rw [e', ← hj]
      exact c1
theorem ids_asc {l : List (Int × Int)} (h : Asc l) : Tk.Asc (Tk.idsL l) := by
  unfold Tk.Asc Tk.idsL
  exact List.pairwise_map.2 h
theorem inB_bd {s i : Int} (h : rightB s = true) (hi : inB s i = true) : -262144 ≤ i ∧ i ≤ 262144 := by
  unfold inB leastV mostV at hi
  rw [decide_eq_true_eq, if_pos h] at hi
  rcases uw_cases h with e | e | e | e | e | e | e | e | e | e | e | e | e <;> rw [e] at hi <;> omega
theorem ids_inb {h : HV} (g : Good h) : Tk.Inb (Tk.idsL h.P) ∧ Tk.Inb (Tk.idsL h.Q) := by
  refine ⟨fun x hx => ?_, fun x hx => ?_⟩ <;> obtain ⟨p, hp, rfl⟩ := List.mem_map.1 hx
  · exact inB_bd g.s (g.iP p hp)
  · exact inB_bd g.s (g.iQ p hp)
/-- indices that a chunk can have -/
structure Ix (xs : List Int) (n : Nat) : Prop where
  asc : Tk.Asc xs
  inb : Tk.Inb xs
  len : xs.length ≤ n
theorem Ix.nil : Ix [] 0 := ⟨List.Pairwise.nil, fun x h => (by cases h), Nat.le_refl _⟩
theorem Ix.P {h : HV} (o : Ok h) : Ix (Tk.idsL h.P) 512 := ⟨ids_asc o.aP, (ids_inb o.toGood).1, by simp [Tk.idsL]; exact o.lP⟩
theorem Ix.Q {h : HV} (o : Ok h) : Ix (Tk.idsL h.Q) 512 := ⟨ids_asc o.aQ, (ids_inb o.toGood).2, by simp [Tk.idsL]; exact o.lQ⟩
theorem lens_le : ∀ {s : List (Int × Int)} {i : Nat} {m : Int}, 0 ≤ m → Tk.rightR s i m = true → Tk.lens s ≤ m
  | [], _, _, h0, _ => by simpa [Tk.lens] using h0
  | p :: r, i, m, h0, h => by
    simp only [Tk.rightR, Bool.and_eq_true] at h
    obtain ⟨h1, h2⟩ := h
    unfold Tk.okAt at h1
    rw [Bool.and_eq_true, Bool.and_eq_true, decide_eq_true_eq, decide_eq_true_eq] at h1
    have := lens_le (s := r) (by omega) h2
    simp only [Tk.lens]
    omega
theorem right_len {xs : List Int} {n : Nat} (h : Ix xs n) (m : Nat) : Tk.rightF (Tk.fstL xs) (Tk.runsL xs) (m : Int) = decide (xs.length ≤ m) := by
  by_cases hm : xs.length ≤ m
  · rw [Tk.runs_right h.asc h.inb (by omega), decide_eq_true hm]
  · rw [decide_eq_false hm]
    have hne : xs ≠ [] := fun e => by rw [e] at hm; simp at hm
    refine Tk.rightF_no (Tk.runsL_ne hne) ?_
    rcases hr : Tk.rightR (Tk.runsL xs) 0 (m : Int) with _ | _
    · rfl
    · have h1 := lens_le (by omega) hr
      have h2 := (Tk.runs_tell xs).2.2.1
      omega
/-- layouts in memory -/
def LyV (w : World) (xs ys : List Int) (v : Value) : Prop := ∃ A B c d, v = .agg #[.int .i64 (Tk.fstL xs), .slice A (Tk.runsL xs).length c, .int .i64 (Tk.fstL ys), .slice B (Tk.runsL ys).length d] ∧ Tk.Ly w A xs ∧ Tk.Ly w B ys
theorem LyV.below {xs ys : List Int} {v : Value} {w w' : World} (h : LyV w xs ys v) (hb : Below w.heap.size w w') : LyV w' xs ys v := by
  obtain ⟨A, B, c, d, h1, h2, h3⟩ := h
  exact ⟨A, B, c, d, h1, h2.below hb, h3.below hb⟩
theorem LyV.nil (w : World) : LyV w [] [] (.agg #[.int .i64 0, .slice none 0 0, .int .i64 0, .slice none 0 0]) := ⟨none, none, 0, 0, rfl, Tk.Cl.nil _ _, Tk.Cl.nil _ _⟩
/-- one layout in memory, in new blocks -/
def OneL (B : Nat) (xs : List Int) (v : Value) (w : World) : Prop := ∃ A c, v = .agg #[.int .i64 (Tk.fstL xs), .slice A (Tk.runsL xs).length c] ∧ Tk.Ly w A xs ∧ ∀ a, A = some a → B ≤ a.block
theorem OneL.below {B : Nat} {xs : List Int} {v : Value} {w w' : World} (h : OneL B xs v w) (hb : Below w.heap.size w w') : OneL B xs v w' := by
  obtain ⟨A, c, h1, h2, h3⟩ := h
  exact ⟨A, c, h1, h2.below hb, h3⟩
theorem ly_off {w : World} {A : Option Addr} {xs : List Value} {g i : Nat} (h : Tk.Cl w A xs) (hn : ∀ a, A = some a → g < a.block) (u : Value) : Tk.Cl (w.setCell ⟨g, i, none⟩ u) A xs := by
  rcases h with h | ⟨b, off, e, hc⟩
  · exact .inl h
  · refine .inr ⟨b, off, e, fun j v hj => ?_⟩
    have hb : g < b := hn _ e
    rw [World.cell?_setCell_other _ _ _ _ (fun e' => by injection e' with e1; omega)]
    exact hc j v hj
theorem box4f {W : World} {g : Nat} {t : TypeId} {v0 v1 v2 v3 : Value} (h : W.heap[g]? = some (.cells #[v0, v1, v2, v3] t (0, 0))) : W.cell? ⟨g, 0, none⟩ = some v0 ∧ W.cell? ⟨g, 1, none⟩ = some v1 ∧ W.cell? ⟨g, 2, none⟩ = some v2 ∧ W.cell? ⟨g, 3, none⟩ = some v3 ∧ W.frozen? ⟨g, 0, none⟩ = false ∧ W.frozen? ⟨g, 1, none⟩ = false ∧ W.frozen? ⟨g, 2, none⟩ = false ∧ W.frozen? ⟨g, 3, none⟩ = false :=
  ⟨by rw [cell_of_row _ _ _ _ _ _ h]; rfl, by rw [cell_of_row _ _ _ _ _ _ h]; rfl, by rw [cell_of_row _ _ _ _ _ _ h]; rfl, by rw [cell_of_row _ _ _ _ _ _ h]; rfl, by simp [World.frozen?, h], by simp [World.frozen?, h], by simp [World.frozen?, h], by simp [World.frozen?, h]⟩
theorem put_at {W : World} {g i : Nat} {cs : Array Value} {t : TypeId} {fr : Nat × Nat} (h : W.heap[g]? = some (.cells cs t fr)) (u : Value) : (W.setCell ⟨g, i, none⟩ u).heap[g]? = some (.cells (cs.setIfInBounds i u) t fr) := by
  simp [World.setCell, Array.getElem?_modify, h]
def sets4 (W : World) (g : Nat) (u0 u1 u2 u3 : Value) : World := (((W.setCell ⟨g, 0, none⟩ u0).setCell ⟨g, 1, none⟩ u1).setCell ⟨g, 2, none⟩ u2).setCell ⟨g, 3, none⟩ u3
theorem sets4_at {W : World} {g : Nat} {t : TypeId} {v0 v1 v2 v3 : Value} (h : W.heap[g]? = some (.cells #[v0, v1, v2, v3] t (0, 0))) (u0 u1 u2 u3 : Value) : (sets4 W g u0 u1 u2 u3).heap[g]? = some (.cells #[u0, u1, u2, u3] t (0, 0)) := by
  unfold sets4
  rw [put_at (put_at (put_at (put_at h u0) u1) u2) u3]; rfl
theorem sets4_below {B : Nat} {w0 W : World} {g : Nat} (h : Below B w0 W) (hg : B ≤ g) (u0 u1 u2 u3 : Value) : Below B w0 (sets4 W g u0 u1 u2 u3) :=
  (((h.setCell (p := ⟨g, 0, none⟩) hg u0).setCell (p := ⟨g, 1, none⟩) hg u1).setCell (p := ⟨g, 2, none⟩) hg u2).setCell (p := ⟨g, 3, none⟩) hg u3
theorem sets4_ly {w : World} {A : Option Addr} {xs : List Value} {g : Nat} (h : Tk.Cl w A xs) (hn : ∀ a, A = some a → g < a.block) (u0 u1 u2 u3 : Value) : Tk.Cl (sets4 w g u0 u1 u2 u3) A xs :=
  ly_off (ly_off (ly_off (ly_off h hn u0) hn u1) hn u2) hn u3
theorem bx {W : World} {g : Nat} {t : TypeId} {vs : Array Value} (h : W.heap[g]? = some (.cells vs t (0, 0))) (i : Nat) (v : Value) (hv : vs[i]? = some v) : W.cell? ⟨g, i, none⟩ = some v := by
  rw [cell_of_row _ _ _ _ _ _ h]; exact hv
set_option maxRecDepth 100000 in
theorem right_ly {xs ys : List Int} {n m : Nat} {v : Value} {w : World} (h : LyV w xs ys v) (hx : Ix xs n) (hy : Ix ys m) (hn : n ≤ 3000) (hm : m ≤ 3000) :
    Calls Tryz.prog 78 #[v] w fun e w' => e = .returned (.bool (decide (xs.length ≤ 512) && decide (ys.length ≤ 512))) ∧ Below w.heap.size w w' := by
  obtain ⟨A, B, c, d, rfl, hA, hB⟩ := h
  obtain ⟨hs1, hl1⟩ := Tk.runs_sb hx.asc hx.inb (by have := hx.len; omega)
  obtain ⟨hs2, hl2⟩ := Tk.runs_sb hy.asc hy.inb (by have := hy.len; omega)
  have hl1' : (Tk.runsL xs).length ≤ 3000 := by have := hx.len; omega
  have hl2' : (Tk.runsL ys).length ≤ 3000 := by have := hy.len; omega
  have r1 := right_len hx 512
  have r2 := right_len hy 512
  obtain ⟨a1, ha1⟩ : ∃ a, Tk.fstL xs = a := ⟨_, rfl⟩
  obtain ⟨s1, hs1'⟩ : ∃ a, Tk.runsL xs = a := ⟨_, rfl⟩
  obtain ⟨a2, ha2⟩ : ∃ a, Tk.fstL ys = a := ⟨_, rfl⟩
  obtain ⟨s2, hs2'⟩ : ∃ a, Tk.runsL ys = a := ⟨_, rfl⟩
  unfold Tk.Ly at hA hB
  rw [ha1, hs1'] at r1
  rw [ha2, hs2'] at r2
  rw [hs1'] at hs1 hl1' hA
  rw [hs2'] at hs2 hl2' hB
  rw [ha1, hs1', ha2, hs2', ← r1, ← r2]
  have hb0 : Below w.heap.size w (w.alloc (.cells #[.int .i64 a1, .slice A s1.length c, .int .i64 a2, .slice B s2.length d] 54)) := (Below.refl _ _).alloc (Nat.le_refl _) _
  have HX := Lib.hid (heap_alloc_new w (.cells #[.int .i64 a1, .slice A s1.length c, .int .i64 a2, .slice B s2.length d] 54))
  have HB := Lib.hid hb0
  have HG := Lib.hid (Array.getElem?_eq_some_iff.1 HX.out).1
  have HR1 := Lib.hid (Tk.right_any a1 (512 : Int) A c s1 _ (hA.below hb0) hs1 ⟨by omega, by omega⟩ (by omega))
  have HR2 := Lib.hid (fun (W : World) (hW : Below w.heap.size w W) => Tk.right_any a2 (512 : Int) B d s2 W (hB.below hW) hs2 ⟨by omega, by omega⟩ (by omega))
  have q0 := bx HX.out 0 _ rfl
  have q1 := bx HX.out 1 _ rfl
  obtain ⟨z1, hz1⟩ : ∃ z, Tk.rightF a1 s1 ((512 : Nat) : Int) = z := ⟨_, rfl⟩
  obtain ⟨z2, hz2⟩ : ∃ z, Tk.rightF a2 s2 ((512 : Nat) : Int) = z := ⟨_, rfl⟩
  have e512 : ((512 : Nat) : Int) = 512 := rfl
  rw [e512] at hz1 hz2
  rw [hz1] at HR1
  rw [e512, hz1, hz2]
  have HZ2 := Lib.hid hz2
  clear hA hB hb0 r1 r2 hs1 hs2 ha1 hs1' ha2 hs2' hx hy hz1 hz2
  go_enter Tryz.func78, Tryz.ntmps78
  go_wp2_with fail
  refine HR1.out.mono ?_
  rintro e w2 ⟨rfl, hb⟩
  have HB2 := Lib.hid (HB.out.trans (hb.mono HB.out.size))
  have hx2 := (hb.block w.heap.size HG.out).trans HX.out
  have q2 := bx hx2 2 _ rfl
  have q3 := bx hx2 3 _ rfl
  clear hb hx2 q0 q1
  cases z1 with
  | false =>
    go_wp2_with fail
    go_ret
    exact ⟨rfl, HB2.out⟩
  | true =>
    go_wp2_with fail
    refine (HR2.out _ HB2.out).mono ?_
    rw [HZ2.out]
    rintro e w3 ⟨rfl, hb⟩
    have HB3 := Lib.hid (HB2.out.trans (hb.mono HB2.out.size))
    clear hb
    go_wp2_with fail
    go_ret
    exact ⟨by simp, HB3.out⟩
def LyW (N : Nat) (xs ys : List Int) (v : Value) (w : World) : Prop := ∃ A B c d, v = .agg #[.int .i64 (Tk.fstL xs), .slice A (Tk.runsL xs).length c, .int .i64 (Tk.fstL ys), .slice B (Tk.runsL ys).length d] ∧ Tk.Ly w A xs ∧ Tk.Ly w B ys ∧ (∀ a, A = some a → N ≤ a.block) ∧ ∀ a, B = some a → N ≤ a.block
theorem LyW.below {N : Nat} {xs ys : List Int} {v : Value} {w w' : World} (h : LyW N xs ys v w) (hb : Below w.heap.size w w') : LyW N xs ys v w' := by
  obtain ⟨A, B, c, d, h1, h2, h3, h4⟩ := h
  exact ⟨A, B, c, d, h1, h2.below hb, h3.below hb, h4⟩
theorem LyW.ly {N : Nat} {xs ys : List Int} {v : Value} {w : World} (h : LyW N xs ys v w) : LyV w xs ys v := by
  obtain ⟨A, B, c, d, h1, h2, h3, _⟩ := h
  exact ⟨A, B, c, d, h1, h2, h3⟩
theorem Ix.uni {xs ys : List Int} {n m : Nat} (h : Ix xs n) (k : Ix ys m) : Ix (Tk.uni xs ys) (n + m) := ⟨(Tk.uni_uni xs ys).1, (Tk.uni_uni xs ys).inb h.inb k.inb, Nat.le_trans (Tk.uni_uni xs ys).2.2 (Nat.add_le_add h.len k.len)⟩
set_option maxHeartbeats 4000000 in
set_option maxRecDepth 100000 in
theorem with_ly {xs ys : List Int} {n m : Nat} {v : Value} {w : World} (h : LyV w xs ys v) (hx : Ix xs n) (hy : Ix ys m) (hn : n ≤ 3000) (hm : m ≤ 3000) (H : HV) (A B : Option Addr) (c d : Nat) (hP : Bk w A H.P) (hQ : Bk w B H.Q) (o : Ok H) :
    Calls Tryz.prog 77 #[v, hvA H A B c d] w fun e w' => ∃ v', e = .returned v' ∧ LyW w.heap.size (Tk.uni xs (Tk.idsL H.P)) (Tk.uni ys (Tk.idsL H.Q)) v' w' ∧ Below w.heap.size w w' := by
  obtain ⟨A1, B1, c1, d1, rfl, hA, hB⟩ := h
  unfold hvA
  obtain ⟨a1, ha1⟩ : ∃ a, Tk.fstL xs = a := ⟨_, rfl⟩
  obtain ⟨n1, hn1⟩ : ∃ a, (Tk.runsL xs).length = a := ⟨_, rfl⟩
  obtain ⟨a2, ha2⟩ : ∃ a, Tk.fstL ys = a := ⟨_, rfl⟩
  obtain ⟨n2, hn2⟩ : ∃ a, (Tk.runsL ys).length = a := ⟨_, rfl⟩
  have HN := Lib.hid (And.intro (And.intro ha1 hn1) (And.intro ha2 hn2))
  rw [ha1, hn1, ha2, hn2]
  obtain ⟨w2, hw2⟩ : ∃ W, ((w.alloc (.cells #[.int .i64 a1, .slice A1 n1 c1, .int .i64 a2, .slice B1 n2 d1] 54)).alloc (.cells #[.int .i64 H.k, .int .i64 H.s, .int .i64 H.z, .int .u64 H.zc, .int .u64 H.ct, .int .i64 H.sm, .slice A H.P.length c, .slice B H.Q.length d] 39)).alloc (.cells #[.int .i64 0, .slice none 0 0, .int .i64 0, .slice none 0 0] 54) = W := ⟨_, rfl⟩
  obtain ⟨g, hg⟩ : ∃ g, w.heap.size = g := ⟨_, rfl⟩
  have hb1 := (Below.refl w.heap.size w).alloc (Nat.le_refl _) (.cells #[.int .i64 a1, .slice A1 n1 c1, .int .i64 a2, .slice B1 n2 d1] 54)
  have hb2 := hb1.alloc hb1.size (.cells #[.int .i64 H.k, .int .i64 H.s, .int .i64 H.z, .int .u64 H.zc, .int .u64 H.ct, .int .i64 H.sm, .slice A H.P.length c, .slice B H.Q.length d] 39)
  have hb3 := hb2.alloc hb2.size (.cells #[.int .i64 0, .slice none 0 0, .int .i64 0, .slice none 0 0] 54)
  have hx2 : w2.heap[g]? = some (.cells #[.int .i64 a1, .slice A1 n1 c1, .int .i64 a2, .slice B1 n2 d1] 54 (0, 0)) := by
    rw [← hw2, Below.heap_alloc _ _ _ (by simp; omega), Below.heap_alloc _ _ _ (by simp; omega), ← hg]
    exact heap_alloc_new _ _
  have hx3 : w2.heap[g + 1]? = some (.cells #[.int .i64 H.k, .int .i64 H.s, .int .i64 H.z, .int .u64 H.zc, .int .u64 H.ct, .int .i64 H.sm, .slice A H.P.length c, .slice B H.Q.length d] 39 (0, 0)) := by
    have hz : (w.alloc (.cells #[.int .i64 a1, .slice A1 n1 c1, .int .i64 a2, .slice B1 n2 d1] 54)).heap.size = g + 1 := by simp [hg]
    rw [← hw2, Below.heap_alloc _ _ _ (by simp; omega), ← hz]
    exact heap_alloc_new _ _
  have hx4 : w2.heap[g + 1 + 1]? = some (.cells #[.int .i64 0, .slice none 0 0, .int .i64 0, .slice none 0 0] 54 (0, 0)) := by
    have hz : ((w.alloc (.cells #[.int .i64 a1, .slice A1 n1 c1, .int .i64 a2, .slice B1 n2 d1] 54)).alloc (.cells #[.int .i64 H.k, .int .i64 H.s, .int .i64 H.z, .int .u64 H.zc, .int .u64 H.ct, .int .i64 H.sm, .slice A H.P.length c, .slice B H.Q.length d] 39)).heap.size = g + 1 + 1 := by simp [hg]
    rw [← hw2, ← hz]
    exact heap_alloc_new _ _
  rw [hw2] at hb3
  have HX := Lib.hid (And.intro hx2 (And.intro hx3 hx4))
  have HLT := Lib.hid (And.intro (Array.getElem?_eq_some_iff.1 hx2).1 (And.intro (Array.getElem?_eq_some_iff.1 hx3).1 (Array.getElem?_eq_some_iff.1 hx4).1))
  have HB := Lib.hid hb3
  have HK := Lib.hid (And.intro (And.intro (hA.below hb3) (hB.below hb3)) (And.intro (hP.below hb3) (hQ.below hb3)))
  have HI := Lib.hid (And.intro (And.intro hx hy) o)
  have HG := Lib.hid hg
  clear hx2 hx3 hx4 hb1 hb2 hb3 hA hB hP hQ hx hy o ha1 hn1 ha2 hn2
  go_enter Tryz.func77, Tryz.ntmps77
  go_wp2_with fail
  clear hw2 hg
  refine Rg.wp_region_invG (R := fun sl v w => match sl with
      | 5 => v = .pointer (some ⟨g, 0, none⟩)
      | 6 => v = .agg #[.int .i64 a1, .slice A1 n1 c1]
      | 7 => v = .pointer (some ⟨g + 1, 6, none⟩)
      | 8 => v = .slice A H.P.length c
      | 9 => OneL w2.heap.size (Tk.idsL H.P) v w
      | 10 => OneL w2.heap.size (Tk.uni xs (Tk.idsL H.P)) v w
      | 11 => v = .pointer (some ⟨g, 2, none⟩)
      | 12 => v = .agg #[.int .i64 a2, .slice B1 n2 d1]
      | 13 => v = .pointer (some ⟨g + 1, 7, none⟩)
      | 14 => v = .slice B H.Q.length d
      | 15 => OneL w2.heap.size (Tk.idsL H.Q) v w
      | 16 => OneL w2.heap.size (Tk.uni ys (Tk.idsL H.Q)) v w
      | 17 => LyW w2.heap.size (Tk.uni xs (Tk.idsL H.P)) (Tk.uni ys (Tk.idsL H.Q)) v w
      | _ => True) (fun a w => True) 13 [5, 6, 7, 8, 9, 10, 11, 12, 13, 14, 15, 16, 17] 18 [false, false, false, false, false, true, true, true, true, true, true, true, true, true, true, true, true, true] (by kernel_rfl) rfl (by kernel_rfl) (by kernel_rfl) (by kernel_rfl) (by kernel_rfl) (Nat.le_of_ble_eq_true (by kernel_rfl)) (by kernel_rfl) (by kernel_rfl) ?mono ?g0 ?good ?done
  case mono =>
    refine List.forall_mem_cons.2 ⟨fun _ _ _ _ _ h => h, ?_⟩
    refine List.forall_mem_cons.2 ⟨fun _ _ _ _ _ h => h, ?_⟩
    refine List.forall_mem_cons.2 ⟨fun _ _ _ _ _ h => h, ?_⟩
    refine List.forall_mem_cons.2 ⟨fun _ _ _ _ _ h => h, ?_⟩
    refine List.forall_mem_cons.2 ⟨fun _ _ _ _ hb h => OneL.below h hb, ?_⟩
    refine List.forall_mem_cons.2 ⟨fun _ _ _ _ hb h => OneL.below h hb, ?_⟩
    refine List.forall_mem_cons.2 ⟨fun _ _ _ _ _ h => h, ?_⟩
    refine List.forall_mem_cons.2 ⟨fun _ _ _ _ _ h => h, ?_⟩
    refine List.forall_mem_cons.2 ⟨fun _ _ _ _ _ h => h, ?_⟩
    refine List.forall_mem_cons.2 ⟨fun _ _ _ _ _ h => h, ?_⟩
    refine List.forall_mem_cons.2 ⟨fun _ _ _ _ hb h => OneL.below h hb, ?_⟩
    refine List.forall_mem_cons.2 ⟨fun _ _ _ _ hb h => OneL.below h hb, ?_⟩
    refine List.forall_mem_cons.2 ⟨fun _ _ _ _ hb h => LyW.below h hb, ?_⟩
    exact fun _ h => absurd h (by simp)
  case g0 => exact trivial
  case good =>
    refine Rg.goodG_cons ?_ ?_
    · intro ac w' cx hg hn
      have e2 := cx.at_ 2 (by kernel_rfl) rfl
      refine .inl ⟨(Rg.wanted_none rfl), fun K hK => ?_⟩
      go_simp
      exact hK _ _ (Below.refl _ _) (fun t ht => by injection ht with ht; subst ht; exact rfl) trivial
    refine Rg.goodG_cons ?_ ?_
    · intro ac w' cx hg hn
      obtain ⟨v5, e5, r5⟩ := hn 5 (Rg.mem_of (by kernel_rfl))
      obtain rfl : v5 = .pointer (some ⟨g, 0, none⟩) := r5
      have q0 := bx ((cx.bel.block g (HLT.out.1)).trans HX.out.1) 0 _ rfl; have q1 := bx ((cx.bel.block g (HLT.out.1)).trans HX.out.1) 1 _ rfl
      refine .inl ⟨(Rg.wanted_none rfl), fun K hK => ?_⟩
      go_simp
      exact hK _ _ (Below.refl _ _) (fun t ht => by injection ht with ht; subst ht; exact rfl) trivial
    refine Rg.goodG_cons ?_ ?_
    · intro ac w' cx hg hn
      have e3 := cx.at_ 3 (by kernel_rfl) rfl
      refine .inl ⟨(Rg.wanted_none rfl), fun K hK => ?_⟩
      go_simp
      exact hK _ _ (Below.refl _ _) (fun t ht => by injection ht with ht; subst ht; exact rfl) trivial
    refine Rg.goodG_cons ?_ ?_
    · intro ac w' cx hg hn
      obtain ⟨v7, e7, r7⟩ := hn 7 (Rg.mem_of (by kernel_rfl))
      obtain rfl : v7 = .pointer (some ⟨g + 1, 6, none⟩) := r7
      have q0 := bx ((cx.bel.block (g + 1) (HLT.out.2.1)).trans HX.out.2.1) 6 _ rfl
      refine .inl ⟨(Rg.wanted_none rfl), fun K hK => ?_⟩
      go_simp
      exact hK _ _ (Below.refl _ _) (fun t ht => by injection ht with ht; subst ht; exact rfl) trivial
    refine Rg.goodG_cons ?_ ?_
    · intro ac w' cx hg hn
      obtain ⟨v8, e8, r8⟩ := hn 8 (Rg.mem_of (by kernel_rfl))
      obtain rfl : v8 = .slice A H.P.length c := r8
      refine .inl ⟨(Rg.wanted_none rfl), fun K hK => ?_⟩
      go_simp
      refine (Tk.of_any A c H.P w' (bk_tk (HK.out.2.1.below cx.bel)) (Ix.P HI.out.2).asc (Ix.P HI.out.2).inb (by have := (Ix.P HI.out.2).len; simp [Tk.idsL] at this; omega)).mono ?_
      rintro e w2' ⟨A', c', rfl, hl, hnew, hb⟩
      exact hK _ _ hb (fun t ht => by injection ht with ht; subst ht; exact ⟨A', c', rfl, hl, fun a ha => Nat.le_trans cx.bel.size (hnew a ha)⟩) trivial
    refine Rg.goodG_cons ?_ ?_
    · intro ac w' cx hg hn
      obtain ⟨v6, e6, r6⟩ := hn 6 (Rg.mem_of (by kernel_rfl))
      obtain rfl : v6 = .agg #[.int .i64 a1, .slice A1 n1 c1] := r6
      obtain ⟨v9, e9, r9⟩ := hn 9 (Rg.mem_of (by kernel_rfl))
      replace r9 : OneL w2.heap.size (Tk.idsL H.P) v9 w' := r9
      refine .inl ⟨(Rg.wanted_none rfl), fun K hK => ?_⟩
      obtain ⟨A', c', rfl, hl, hnw⟩ := r9
      have hj := Tk.join_any A1 A' c1 c' _ _ w' (HK.out.1.1.below cx.bel) hl HI.out.1.1.asc (Ix.P HI.out.2).asc HI.out.1.1.inb (Ix.P HI.out.2).inb (by have := HI.out.1.1.len; omega) (by have := (Ix.P HI.out.2).len; omega)
      rw [HN.out.1.1, HN.out.1.2] at hj
      go_simp
      refine hj.mono ?_
      rintro e w2' ⟨A2, c2, rfl, hl2, hnew, hb⟩
      exact hK _ _ hb (fun t ht => by injection ht with ht; subst ht; exact ⟨A2, c2, rfl, hl2, fun a ha => Nat.le_trans cx.bel.size (hnew a ha)⟩) trivial
    refine Rg.goodG_cons ?_ ?_
    · intro ac w' cx hg hn
      have e2 := cx.at_ 2 (by kernel_rfl) rfl
      refine .inl ⟨(Rg.wanted_none rfl), fun K hK => ?_⟩
      go_simp
      exact hK _ _ (Below.refl _ _) (fun t ht => by injection ht with ht; subst ht; exact rfl) trivial
    refine Rg.goodG_cons ?_ ?_
    · intro ac w' cx hg hn
      obtain ⟨v11, e11, r11⟩ := hn 11 (Rg.mem_of (by kernel_rfl))
      obtain rfl : v11 = .pointer (some ⟨g, 2, none⟩) := r11
      have q0 := bx ((cx.bel.block g (HLT.out.1)).trans HX.out.1) 2 _ rfl; have q1 := bx ((cx.bel.block g (HLT.out.1)).trans HX.out.1) 3 _ rfl
      refine .inl ⟨(Rg.wanted_none rfl), fun K hK => ?_⟩
      go_simp
      exact hK _ _ (Below.refl _ _) (fun t ht => by injection ht with ht; subst ht; exact rfl) trivial
    refine Rg.goodG_cons ?_ ?_
    · intro ac w' cx hg hn
      have e3 := cx.at_ 3 (by kernel_rfl) rfl
      refine .inl ⟨(Rg.wanted_none rfl), fun K hK => ?_⟩
      go_simp
      exact hK _ _ (Below.refl _ _) (fun t ht => by injection ht with ht; subst ht; exact rfl) trivial
    refine Rg.goodG_cons ?_ ?_
    · intro ac w' cx hg hn
      obtain ⟨v13, e13, r13⟩ := hn 13 (Rg.mem_of (by kernel_rfl))
      obtain rfl : v13 = .pointer (some ⟨g + 1, 7, none⟩) := r13
      have q0 := bx ((cx.bel.block (g + 1) (HLT.out.2.1)).trans HX.out.2.1) 7 _ rfl
      refine .inl ⟨(Rg.wanted_none rfl), fun K hK => ?_⟩
      go_simp
      exact hK _ _ (Below.refl _ _) (fun t ht => by injection ht with ht; subst ht; exact rfl) trivial
    refine Rg.goodG_cons ?_ ?_
    · intro ac w' cx hg hn
      obtain ⟨v14, e14, r14⟩ := hn 14 (Rg.mem_of (by kernel_rfl))
      obtain rfl : v14 = .slice B H.Q.length d := r14
      refine .inl ⟨(Rg.wanted_none rfl), fun K hK => ?_⟩
      go_simp
      refine (Tk.of_any B d H.Q w' (bk_tk (HK.out.2.2.below cx.bel)) (Ix.Q HI.out.2).asc (Ix.Q HI.out.2).inb (by have := (Ix.Q HI.out.2).len; simp [Tk.idsL] at this; omega)).mono ?_
      rintro e w2' ⟨A', c', rfl, hl, hnew, hb⟩
      exact hK _ _ hb (fun t ht => by injection ht with ht; subst ht; exact ⟨A', c', rfl, hl, fun a ha => Nat.le_trans cx.bel.size (hnew a ha)⟩) trivial
    refine Rg.goodG_cons ?_ ?_
    · intro ac w' cx hg hn
      obtain ⟨v12, e12, r12⟩ := hn 12 (Rg.mem_of (by kernel_rfl))
      obtain rfl : v12 = .agg #[.int .i64 a2, .slice B1 n2 d1] := r12
      obtain ⟨v15, e15, r15⟩ := hn 15 (Rg.mem_of (by kernel_rfl))
      replace r15 : OneL w2.heap.size (Tk.idsL H.Q) v15 w' := r15
      refine .inl ⟨(Rg.wanted_none rfl), fun K hK => ?_⟩
      obtain ⟨A', c', rfl, hl, hnw⟩ := r15
      have hj := Tk.join_any B1 A' d1 c' _ _ w' (HK.out.1.2.below cx.bel) hl HI.out.1.2.asc (Ix.Q HI.out.2).asc HI.out.1.2.inb (Ix.Q HI.out.2).inb (by have := HI.out.1.2.len; omega) (by have := (Ix.Q HI.out.2).len; omega)
      rw [HN.out.2.1, HN.out.2.2] at hj
      go_simp
      refine hj.mono ?_
      rintro e w2' ⟨A2, c2, rfl, hl2, hnew, hb⟩
      exact hK _ _ hb (fun t ht => by injection ht with ht; subst ht; exact ⟨A2, c2, rfl, hl2, fun a ha => Nat.le_trans cx.bel.size (hnew a ha)⟩) trivial
    refine Rg.goodG_cons ?_ ?_
    · intro ac w' cx hg hn
      obtain ⟨v10, e10, r10⟩ := hn 10 (Rg.mem_of (by kernel_rfl))
      replace r10 : OneL w2.heap.size (Tk.uni xs (Tk.idsL H.P)) v10 w' := r10
      obtain ⟨v16, e16, r16⟩ := hn 16 (Rg.mem_of (by kernel_rfl))
      replace r16 : OneL w2.heap.size (Tk.uni ys (Tk.idsL H.Q)) v16 w' := r16
      refine .inl ⟨(Rg.wanted_none rfl), fun K hK => ?_⟩
      obtain ⟨A', c', rfl, hl, hnw⟩ := r10
      obtain ⟨B', d', rfl, hm', hnw'⟩ := r16
      go_simp
      exact hK _ _ (Below.refl _ _) (fun t ht => by injection ht with ht; subst ht; exact ⟨A', B', c', d', rfl, hl, hm', hnw, hnw'⟩) trivial
    exact Rg.goodG_nil
  case done =>
    intro u w6 hb6 hr _
    have q17 : LyW w2.heap.size (Tk.uni xs (Tk.idsL H.P)) (Tk.uni ys (Tk.idsL H.Q)) (u 17) w6 := hr 17 (by simp)
    obtain ⟨A', B', c', d', q17', hl, hm', hn1, hn2⟩ := q17
    simp only [Rg.fillL_cons, Rg.fillL_nil, if_true, if_false, Bool.false_eq_true, q17', List.drop_succ_cons, List.drop_zero]
    have hx6 := (hb6.block (g + 1 + 1) HLT.out.2.2).trans HX.out.2.2
    obtain ⟨v0, v1, v2, v3, f0, f1, f2, f3⟩ := box4f hx6
    have hgz := HG.out
    have hlt := HLT.out.2.2
    have hb7 := HB.out.trans (hb6.mono HB.out.size)
    obtain ⟨x1, hx1⟩ : ∃ x, Tk.fstL (Tk.uni xs (Tk.idsL H.P)) = x := ⟨_, rfl⟩
    obtain ⟨m1, hm1⟩ : ∃ x, (Tk.runsL (Tk.uni xs (Tk.idsL H.P))).length = x := ⟨_, rfl⟩
    obtain ⟨x2, hx2⟩ : ∃ x, Tk.fstL (Tk.uni ys (Tk.idsL H.Q)) = x := ⟨_, rfl⟩
    obtain ⟨m2, hm2⟩ : ∃ x, (Tk.runsL (Tk.uni ys (Tk.idsL H.Q))).length = x := ⟨_, rfl⟩
    rw [hx1, hm1, hx2, hm2] at q17' ⊢
    have HE := Lib.hid (show ∃ v', Ending.returned (.agg #[.int .i64 x1, .slice A' m1 c', .int .i64 x2, .slice B' m2 d']) = .returned v' ∧ LyW w.heap.size (Tk.uni xs (Tk.idsL H.P)) (Tk.uni ys (Tk.idsL H.Q)) v' (sets4 w6 (g + 1 + 1) (.int .i64 x1) (.slice A' m1 c') (.int .i64 x2) (.slice B' m2 d')) ∧ Below w.heap.size w (sets4 w6 (g + 1 + 1) (.int .i64 x1) (.slice A' m1 c') (.int .i64 x2) (.slice B' m2 d')) from
      ⟨_, rfl, ⟨A', B', c', d', by rw [hx1, hm1, hx2, hm2], sets4_ly hl (fun a ha => by have := hn1 a ha; omega) _ _ _ _, sets4_ly hm' (fun a ha => by have := hn2 a ha; omega) _ _ _ _, fun a ha => by have := hn1 a ha; omega, fun a ha => by have := hn2 a ha; omega⟩, sets4_below hb7 (by omega) _ _ _ _⟩)
    obtain ⟨z0, z1, z2, z3, _, _, _, _⟩ := box4f (sets4_at hx6 (.int .i64 x1) (.slice A' m1 c') (.int .i64 x2) (.slice B' m2 d'))
    unfold sets4 at z0 z1 z2 z3 HE
    clear hr hb6 hx6 hl hm' hn1 hn2 hb7 hx1 hm1 hx2 hm2
    go_wp2_with fail
    exact bodyPost_ret (v := .agg #[.int .i64 x1, .slice A' m1 c', .int .i64 x2, .slice B' m2 d']) (by simp [results, Tryz.results77, go_sem, z0, z1, z2, z3]) rfl HE.out
end Go.Proofs.YtakomfnajeolcaaGreatDoor.Ch


/- What a chunk tells once is the same of two histograms (likeHead); a counter began anew (reset). -/
namespace Go.Proofs.YtakomfnajeolcaaGreatDoor.Ch
open Go.RowKit Go.Sort Go.Proofs.YtakomfnajeolcaaGreatDoor.En
set_option linter.unusedVariables false

theorem two_alloc (w : World) (X Y : Obj) : ((w.alloc X).alloc Y).heap[w.heap.size]? = some X ∧ ((w.alloc X).alloc Y).heap[w.heap.size + 1]? = some Y ∧ Below w.heap.size w ((w.alloc X).alloc Y) := by
  have b1 := (Below.refl w.heap.size w).alloc (Nat.le_refl _) X
  refine ⟨?_, ?_, b1.alloc b1.size Y⟩
  · rw [Below.heap_alloc _ _ _ (by simp)]
    exact heap_alloc_new _ _
  · have hz : (w.alloc X).heap.size = w.heap.size + 1 := by simp
    rw [← hz]
    exact heap_alloc_new _ _
@[reducible] def hvC (h : HV) (A B : Option Addr) (c d : Nat) : Array Value := #[.int .i64 h.k, .int .i64 h.s, .int .i64 h.z, .int .u64 h.zc, .int .u64 h.ct, .int .i64 h.sm, .slice A h.P.length c, .slice B h.Q.length d]
/-- what is told once of two -/
def lhB (a b : HV) : Bool := decide (a.k = b.k) && (decide (a.s = b.s) && decide (a.z = b.z))
theorem lhB_true {a b : HV} : lhB a b = true ↔ a.k = b.k ∧ a.s = b.s ∧ a.z = b.z := by
  unfold lhB
  rw [Bool.and_eq_true, Bool.and_eq_true, decide_eq_true_eq, decide_eq_true_eq, decide_eq_true_eq]
/-- a counter began anew, of two that are like -/
def rsB (a b : HV) : Bool := decide (b.k = 0) && (mSubE b a == 21)
theorem two_like {a b : HV} (oa : Ok a) (ob : Ok b) (h : lhB a b = true) : Two b a b a := by
  obtain ⟨h1, h2, h3⟩ := lhB_true.1 h
  refine ⟨?_, ob, oa⟩
  unfold downF
  rw [if_pos (by omega), if_pos (by omega)]
  exact .done h3.symm
set_option maxRecDepth 100000 in
theorem like_h (a b : HV) (A B A' B' : Option Addr) (c d c' d' : Nat) (w : World) :
    Calls Tryz.prog 75 #[hvA a A B c d, hvA b A' B' c' d'] w fun e w' => e = .returned (.bool (lhB a b)) ∧ Below w.heap.size w w' := by
  unfold hvA
  obtain ⟨x1, x2, hb⟩ := two_alloc w (.cells (hvC a A B c d) 39) (.cells (hvC b A' B' c' d') 39)
  have p0 := bx x1 0 _ rfl
  have p1 := bx x1 1 _ rfl
  have p2 := bx x1 2 _ rfl
  have q0 := bx x2 0 _ rfl
  have q1 := bx x2 1 _ rfl
  have q2 := bx x2 2 _ rfl
  have HB := Lib.hid hb
  clear x1 x2 hb
  unfold hvC at p0 p1 p2 q0 q1 q2 HB
  go_enter Tryz.func75, Tryz.ntmps75
  by_cases h1 : a.k = b.k
  · by_cases h2 : a.s = b.s
    · by_cases h3 : a.z = b.z
      · go_wp2_with fail
        go_ret
        exact ⟨by simp [lhB, h1, h2, h3], by have := HB.out; simp only [h1, h2, h3] at this; exact this⟩
      · go_wp2_with fail
        go_ret
        exact ⟨by simp [lhB, h1, h2, h3], by have := HB.out; simp only [h1, h2] at this; exact this⟩
    · go_wp2_with fail
      go_ret
      exact ⟨by simp [lhB, h1, h2], by have := HB.out; simp only [h1] at this; exact this⟩
  · go_wp2_with fail
    go_ret
    exact ⟨by simp [lhB, h1], HB.out⟩
set_option maxRecDepth 100000 in
theorem reset_like {a b : HV} (oa : Ok a) (ob : Ok b) (hl : lhB a b = true) (A B A' B' : Option Addr) (c d c' d' : Nat) (w : World) (hP : Bk w A a.P) (hQ : Bk w B a.Q) (hP' : Bk w A' b.P) (hQ' : Bk w B' b.Q) :
    Calls Tryz.prog 76 #[hvA a A B c d, hvA b A' B' c' d'] w fun e w' => e = .returned (.bool (rsB a b)) ∧ Below w.heap.size w w' := by
  unfold hvA
  obtain ⟨x1, x2, hb⟩ := two_alloc w (.cells (hvC a A B c d) 39) (.cells (hvC b A' B' c' d') 39)
  have p0 := bx x1 0 _ rfl
  have p1 := bx x1 1 _ rfl
  have p2 := bx x1 2 _ rfl
  have p3 := bx x1 3 _ rfl
  have p4 := bx x1 4 _ rfl
  have p5 := bx x1 5 _ rfl
  have p6 := bx x1 6 _ rfl
  have p7 := bx x1 7 _ rfl
  have q0 := bx x2 0 _ rfl
  have q1 := bx x2 1 _ rfl
  have q2 := bx x2 2 _ rfl
  have q3 := bx x2 3 _ rfl
  have q4 := bx x2 4 _ rfl
  have q5 := bx x2 5 _ rfl
  have q6 := bx x2 6 _ rfl
  have q7 := bx x2 7 _ rfl
  have HB := Lib.hid hb
  have HR := Lib.hid (reset_two (two_like oa ob hl) A B A' B' c d c' d' _ (hP.below hb) (hQ.below hb) (hP'.below hb) (hQ'.below hb) _ rfl)
  clear x1 x2 hb hP hQ hP' hQ' oa ob hl
  unfold hvC at p0 p1 p2 p3 p4 p5 p6 p7 q0 q1 q2 q3 q4 q5 q6 q7 HB HR
  go_enter Tryz.func76, Tryz.ntmps76
  by_cases h1 : b.k = 0
  · have hb1 := HB.out
    have hr1 := HR.out
    simp only [h1] at hb1 hr1
    have HB := Lib.hid hb1
    have HR := Lib.hid hr1
    clear hb1 hr1
    go_wp2_with fail
    refine HR.out.mono ?_
    rintro e w2 ⟨rfl, hb⟩
    have HB2 := Lib.hid (HB.out.trans (hb.mono HB.out.size))
    clear hb
    go_wp2_with fail
    go_ret
    exact ⟨by simp [rsB, h1], HB2.out⟩
  · go_wp2_with fail
    go_ret
    exact ⟨by simp [rsB, h1], HB.out⟩
end Go.Proofs.YtakomfnajeolcaaGreatDoor.Ch
