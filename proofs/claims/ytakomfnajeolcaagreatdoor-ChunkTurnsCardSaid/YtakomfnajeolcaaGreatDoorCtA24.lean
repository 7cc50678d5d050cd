import Derived.Test.YtakomfnajeolcaaGreatDoorCtA23
set_option linter.unusedVariables false
/- The contracts of Join and Has. -/
namespace Go.Proofs.YtakomfnajeolcaaGreatDoor.Tk
open Go.RowKit Go.Sort
set_option linter.unusedVariables false

/-- what Join leaves -/
def JoinPost (w : World) (U : List Int) (e : Ending) (w' : World) : Prop := ∃ A c, e = .returned (.agg #[.int .i64 (fstL U), .slice A (runsL U).length c]) ∧ Ly w' A U ∧ New w A ∧ Below w.heap.size w w'
/-- behind the append -/
def JcRel (W0 : World) (xs ys : List Int) (s5 : Value) (wx : World) : Prop := ∃ (A : Option Addr) (n c : Nat) (X : List Int), s5 = .slice A n c ∧ n = X.length ∧ wx.ownsRow W0.heap.size 3 1 (.slice A n c) n (intsC .i64 X) ∧ (X = xs ++ ys) ∧ Below W0.heap.size W0 wx
set_option maxHeartbeats 1000000 in
set_option maxRecDepth 100000 in
theorem join_any (A B : Option Addr) (c d : Nat) (xs ys : List Int) (w : World) (hA : Ly w A xs) (hB : Ly w B ys) (ax : Asc xs) (ay : Asc ys) (ix : Inb xs) (iy : Inb ys) (lx : xs.length ≤ 4000) (ly : ys.length ≤ 4000) :
    Calls Tryz.prog 103 #[.agg #[.int .i64 (fstL xs), .slice A (runsL xs).length c], .agg #[.int .i64 (fstL ys), .slice B (runsL ys).length d]] w (JoinPost w (uni xs ys)) := by
  have HU := Lib.hid (uni_uni xs ys)
  have HUI := Lib.hid ((uni_uni xs ys).inb ix iy)
  obtain ⟨W0, hW0⟩ : ∃ W, ((w.alloc (.cells #[.int .i64 (fstL xs), .slice A (runsL xs).length c] 52)).alloc (.cells #[.int .i64 (fstL ys), .slice B (runsL ys).length d] 52)).alloc (.cells #[.int .i64 0, .slice none 0 0] 52) = W := ⟨_, rfl⟩
  have hb0 : Below w.heap.size w W0 := by rw [← hW0]; exact (((Below.refl _ _).alloc (Nat.le_refl _) _).alloc (by simp) _).alloc (by simp; omega) _
  have hsz : W0.heap.size = w.heap.size + 3 := by rw [← hW0]; simp
  have bx : W0.heap[w.heap.size]? = some (.cells #[.int .i64 (fstL xs), .slice A (runsL xs).length c] 52 (0, 0)) := by
    rw [← hW0, Below.heap_alloc _ _ _ (by simp; omega), Below.heap_alloc _ _ _ (by simp)]; exact heap_alloc_new w _
  obtain ⟨gY, hgY⟩ : ∃ g, w.heap.size + 1 = g := ⟨_, rfl⟩
  obtain ⟨gR, hgR⟩ : ∃ g, gY + 1 = g := ⟨_, rfl⟩
  have by_ : W0.heap[gY]? = some (.cells #[.int .i64 (fstL ys), .slice B (runsL ys).length d] 52 (0, 0)) := by
    rw [← hW0, ← hgY, Below.heap_alloc _ _ _ (by simp)]
    have := heap_alloc_new (w.alloc (.cells #[.int .i64 (fstL xs), .slice A (runsL xs).length c] 52)) (.cells #[.int .i64 (fstL ys), .slice B (runsL ys).length d] 52)
    simpa using this
  have br : W0.heap[gR]? = some (.cells #[.int .i64 0, .slice none 0 0] 52 (0, 0)) := by
    rw [← hW0, ← hgR, ← hgY]
    have := heap_alloc_new ((w.alloc (.cells #[.int .i64 (fstL xs), .slice A (runsL xs).length c] 52)).alloc (.cells #[.int .i64 (fstL ys), .slice B (runsL ys).length d] 52)) (.cells #[.int .i64 0, .slice none 0 0] 52)
    simpa using this
  have HCA := Lib.hid (fun (W : World) (hW : Below W0.heap.size W0 W) => indices_any A c xs W ((hA.below hb0).below hW) ax (ix.w ax) (by omega))
  have HCB := Lib.hid (fun (W : World) (hW : Below W0.heap.size W0 W) => indices_any B d ys W ((hB.below hb0).below hW) ay (iy.w ay) (by omega))
  have HBX := Lib.hid (box2b bx)
  have HBY := Lib.hid (box2b by_)
  have HBR := Lib.hid (fun (W : World) (hW : Below W0.heap.size W0 W) => (hW.block gR (by omega)).trans br)
  have HB0 := Lib.hid hb0
  have HSZ := Lib.hid (And.intro hsz (And.intro hgY hgR))
  have hWW := Lib.hid hW0
  have hYY := Lib.hid hgY
  have hRR := Lib.hid hgR
  clear hW0 hb0 hsz bx by_ br hgY hgR hA hB ax ay ix iy
  obtain ⟨fx, hfx⟩ : ∃ f, fstL xs = f := ⟨_, rfl⟩
  obtain ⟨fy, hfy⟩ : ∃ f, fstL ys = f := ⟨_, rfl⟩
  obtain ⟨nx, hnx⟩ : ∃ f, (runsL xs).length = f := ⟨_, rfl⟩
  obtain ⟨ny, hny⟩ : ∃ f, (runsL ys).length = f := ⟨_, rfl⟩
  rw [hfx, hnx] at HCA HBX
  rw [hfy, hny] at HCB HBY
  rw [hfx, hfy, hnx, hny] at hWW ⊢
  clear hfx hfy hnx hny
  go_enter Tryz.func103, Tryz.ntmps103
  go_wp2_with fail
  rw [hWW.out]
  simp only [hYY.out, hRR.out]
  go_cut [5] from 6 (fun s5 wx => JcRel W0 xs ys s5 wx)
  case first =>
    have g0 : Below W0.heap.size W0 W0.drew := (Below.refl _ _).drew
    obtain ⟨x0, x1⟩ := HBX.out W0 (Below.refl _ _)
    obtain ⟨y0, y1⟩ := HBY.out W0 (Below.refl _ _)
    go_region_law (first
      | (refine step_app_ints rfl (.tmp 7) (.tmp 9) rfl W0.heap.size _ _ _ xs rfl (by assumption) W0.heap.size _ _ _ ys rfl (by assumption) (by omega) (Below.size (by assumption : Below W0.heap.size W0 _)) ?_; intro A3 c3 w3 ho3 hg3; have HOO := Lib.hid ho3; have HB3 := Lib.hid (below_own (by assumption : Below W0.heap.size W0 _) (Below.size (by assumption : Below W0.heap.size W0 _)) (by assumption : World.ownsRow _ _ _ _ (.slice _ xs.length _) _ (intsC .i64 xs)) (Nat.le_refl _) hg3); clear ho3 hg3)
      | (go_simp; go_at_call 91; first
        | ((with_reducible refine (HCA.out _ (by first | assumption | exact (Below.refl _ _).drew)).mono ?_); rintro e w1 ⟨A1, c1, rfl, hO1, hb1⟩; have p1 : Below W0.heap.size W0 w1 := Below.trans (by first | assumption | exact (Below.refl _ _).drew) (hb1.mono (Below.size (by first | assumption | exact (Below.refl _ _).drew : Below W0.heap.size W0 _))); have o1 := own_base hO1 (Below.size (by first | assumption | exact (Below.refl _ _).drew : Below W0.heap.size W0 _)); obtain ⟨y2, y3⟩ := HBY.out w1 p1; (first | (have o3 := own_below (by assumption : World.ownsRow _ _ _ _ (.slice _ ys.length _) _ (intsC .i64 ys)) hb1) | skip); clear hO1 hb1)
        | ((with_reducible refine (HCB.out _ (by first | assumption | exact (Below.refl _ _).drew)).mono ?_); rintro e w2 ⟨A2, c2, rfl, hO2, hb2⟩; have p2 : Below W0.heap.size W0 w2 := Below.trans (by first | assumption | exact (Below.refl _ _).drew) (hb2.mono (Below.size (by first | assumption | exact (Below.refl _ _).drew : Below W0.heap.size W0 _))); have o2 := own_base hO2 (Below.size (by first | assumption | exact (Below.refl _ _).drew : Below W0.heap.size W0 _)); obtain ⟨x2, x3⟩ := HBX.out w2 p2; (first | (have o4 := own_below (by assumption : World.ownsRow _ _ _ _ (.slice _ xs.length _) _ (intsC .i64 xs)) hb2) | skip); clear hO2 hb2)
        | fail))
    all_goals (go_wp2_with fail)
    all_goals go_meet
    all_goals exact ⟨_, _, _, xs ++ ys, rfl, by simp, HOO.out, rfl, HB3.out⟩
  case rest =>
    obtain ⟨A1, n1, c1, X, rfl, hn, ho, hX, hb⟩ := hcut
    have HO := Lib.hid ho
    have HB := Lib.hid hb
    have HN := Lib.hid hn
    have HX := Lib.hid hX
    have hlx : X.length ≤ 1000000 := by rw [hX]; simp; omega
    clear ho hb hn hX
    go_wp2_with fail
    refine (sort_any _ _ _ _ _ _ HO.out HN.out hlx).mono ?_
    rintro e w1 ⟨rfl, ho1, hg1⟩
    obtain ⟨Z, hZ⟩ : ∃ Z, X.mergeSort (fun x y => decide (x ≤ y)) = Z := ⟨_, rfl⟩
    rw [hZ] at ho1
    have HZ := Lib.hid (show Lib.compact Z = uni xs ys by rw [← hZ, HX.out]; rfl)
    have HN2 := Lib.hid (show n1 = Z.length by rw [← hZ, List.length_mergeSort]; exact HN.out)
    have HN3 := Lib.hid (show Z.length ≤ 1000000 by rw [← hZ, List.length_mergeSort]; exact hlx)
    rw [HN.out.symm] at ho1
    have HO1 := Lib.hid ho1
    have HB1 := Lib.hid (below_own HB.out HB.out.size HO.out (Nat.le_refl _) hg1)
    clear ho1 hg1 hZ
    go_wp2_with fail
    refine (compact_any _ _ _ _ _ _ HO1.out HN2.out HN3.out).mono ?_
    rintro e w2 ⟨A2, c2, rfl, hcl, hbw⟩
    rw [HZ.out] at hcl ⊢
    have HCL := Lib.hid hcl
    have HB2 := Lib.hid (hbw W0 HB1.out HB1.out.size)
    clear hcl hbw
    have hlu : (uni xs ys).length ≤ 10000 := by have := HU.out.2.2; omega
    go_wp2_with fail
    refine (runs_any A2 c2 (uni xs ys) w2 HCL.out HU.out.1 HUI.out hlu).mono ?_
    rintro e w3 ⟨A3, c3, rfl, hly, hnw, hb3⟩
    have HB3 := Lib.hid (HB2.out.trans (hb3.mono HB2.out.size))
    obtain ⟨z0, z1, zf⟩ := box2 (HBR.out w3 HB3.out)
    have zf0 := zf 0
    have zf1 := zf 1
    have HEND := Lib.hid (show JoinPost w (uni xs ys) (.returned (.agg #[.int .i64 (fstL (uni xs ys)), .slice A3 (runsL (uni xs ys)).length c3])) ((w3.setCell ⟨gR, 0, none⟩ (.int .i64 (fstL (uni xs ys)))).setCell ⟨gR, 1, none⟩ (.slice A3 (runsL (uni xs ys)).length c3)) from by
      obtain ⟨e1, e2, e3⟩ := HSZ.out
      refine ⟨A3, c3, rfl, ?_, ?_, ?_⟩
      · exact (Cl.set (Cl.set hly (p := ⟨gR, 0, none⟩) (fun a ha => by have := hnw a ha; have := HB2.out.size; simp; omega) _) (p := ⟨gR, 1, none⟩) (fun a ha => by have := hnw a ha; have := HB2.out.size; simp; omega) _)
      · exact hnw.mono (Nat.le_trans HB0.out.size HB2.out.size)
      · exact ((HB0.out.trans (HB3.out.mono HB0.out.size)).setCell (by simp; omega) _).setCell (by simp; omega) _)
    clear zf hly hb3 hnw
    go_wp2_with fail
    exact bodyPost_ret (v := .agg #[.int .i64 (fstL (uni xs ys)), .slice A3 (runsL (uni xs ys)).length c3]) (by simp [results, Tryz.results103, go_sem, z0, z1]) rfl HEND.out
end Go.Proofs.YtakomfnajeolcaaGreatDoor.Tk


/- Buckets above a place, and where a place lies: above, outside. -/
namespace Go.Proofs.YtakomfnajeolcaaGreatDoor
open Go.RowKit Go.Sort
set_option linter.unusedVariables false

theorem inside_iff {s : Int} (R : rightB s = true) {i u : Int} : (un s (i - 1) < u ∧ u < un s i) ↔ (i = cl s u ∧ u ≠ un s (cl s u)) := by
  have hb := cl_bounds R u
  constructor
  · rintro ⟨h1, h2⟩
    have h3 := (un_lt R).1 h1
    have h4 : ¬ i < cl s u := fun h => by have := (un_lt R).2 h; omega
    obtain rfl : i = cl s u := by omega
    exact ⟨rfl, by omega⟩
  · rintro ⟨rfl, h⟩
    exact ⟨hb.1, by omega⟩
theorem outF_here {s : Int} (R : rightB s = true) {L : List (Int × Int)} {u : Int} {p : Int × Int} (hp : p ∈ L) (h1 : un s (p.1 - 1) < u) (h2 : u < un s p.1) : outF s L u = un s p.1 := by
  obtain ⟨e, n⟩ := (inside_iff R).1 ⟨h1, h2⟩
  unfold outF
  rw [if_pos ⟨hasI_iff.2 ⟨p, hp, e⟩, n⟩, e]
theorem outF_none {s : Int} (R : rightB s = true) {L : List (Int × Int)} {u : Int} (h : ∀ p ∈ L, ¬ (un s (p.1 - 1) < u ∧ u < un s p.1)) : outF s L u = u := by
  unfold outF
  split
  · rename_i hh
    obtain ⟨p, hp, e⟩ := hasI_iff.1 hh.1
    exact absurd ((inside_iff R).2 ⟨e, hh.2⟩) (h p hp)
  · rfl
theorem keep_snoc (s u : Int) (l : List (Int × Int)) (p : Int × Int) : (u < un s p.1 → keepL s u (l ++ [p]) = keepL s u l ++ [p] ∧ goneN s u (l ++ [p]) = goneN s u l) ∧ (¬ u < un s p.1 → keepL s u (l ++ [p]) = keepL s u l ∧ goneN s u (l ++ [p]) = goneN s u l + p.2) := by
  constructor
  · intro h
    have hG : G s u p.1 = true := by unfold G; simpa using h
    unfold keepL goneN
    rw [List.filter_append, cw_append, cw_cons, cw_nil]
    simp [hG]
  · intro h
    have hG : G s u p.1 = false := by unfold G; simpa using h
    unfold keepL goneN
    rw [List.filter_append, cw_append, cw_cons, cw_nil]
    simp [hG]
theorem gone_bd (s u : Int) {l : List (Int × Int)} (h : Nn l) (k : Nat) : 0 ≤ goneN s u (l.take k) ∧ goneN s u (l.take k) ≤ cnt l := by
  have hn : Nn (l.take k) := fun p hp => h p (List.mem_of_mem_take hp)
  have h1 := keep_gone s u (l.take k)
  have h2 : 0 ≤ goneN s u (l.take k) := hn.cw _
  have h3 : 0 ≤ cnt (keepL s u (l.take k)) := (hn.filter _).cnt
  have e : cnt l = cnt (l.take k) + cnt (l.drop k) := by rw [← cnt_append, List.take_append_drop]
  have h4 : 0 ≤ cnt (l.drop k) := Nn.cnt fun p hp => h p (List.mem_of_mem_drop hp)
  omega
theorem new_two2 (w : World) (o : Obj) (u v : Value) (t : TypeId) : ((w.alloc o).alloc (.cells #[u, v] t)).cell? ⟨w.heap.size + 1, 0, none⟩ = some u ∧ ((w.alloc o).alloc (.cells #[u, v] t)).cell? ⟨w.heap.size + 1, 1, none⟩ = some v := by
  constructor <;> simp [go_sem]
theorem all_snoc {φ : Int × Int → Prop} {l : List (Int × Int)} {p : Int × Int} (h : ∀ q ∈ l, φ q) (hp : φ p) : ∀ q ∈ l ++ [p], φ q := fun q hq => (List.mem_append.1 hq).elim (h q) (fun h1 => by rw [List.mem_singleton.1 h1]; exact hp)
def AboveP (w : World) (X : List (Int × Int)) (n : Int) (e : Ending) (w' : World) : Prop := ∃ A c, e = .returned (.tuple #[.slice A X.length c, .int .u64 n]) ∧ Bk w' A X ∧ Below w.heap.size w w' ∧ NewA w A
set_option maxHeartbeats 2000000 in
set_option maxRecDepth 100000 in
theorem above_any (s u : Int) (A : Option Addr) (c : Nat) (l : List (Int × Int)) (w : World) (hP : Bk w A l) (hl : l.length ≤ 1000) (R : rightB s = true) (hi : ∀ p ∈ l, inB s p.1 = true) (hn : cnt l ≤ 18446744073709551615) :
    Calls Tryz.prog 178 #[.slice A l.length c, .int .i64 s, .int .i64 u] w (AboveP w (keepL s u l) (goneN s u l)) := by
  have HP := Lib.hid hP
  have HI := Lib.hid hi
  have HR := Lib.hid R
  have HN := Lib.hid (fun k => gone_bd s u (l := l) (fun p hp => (hP.2.1 p hp).2.2.1) k)
  have hlen : (l.length : Int) ≤ 1000 := by omega
  clear hP hi R
  go_enter Tryz.func178, Tryz.ntmps178
  go_wp2_with fail
  go_loopw [8, 9, 14] (fun v n i wr => ∃ (k : Nat) (A1 : Option Addr) (c1 : Nat) (X : List (Int × Int)) (g : Int), k ≤ l.length ∧ i = .int .i64 k ∧ v = .slice A1 X.length c1 ∧ n = .int .u64 g ∧ Hid (X = keepL s u (l.take k) ∧ g = goneN s u (l.take k)) ∧ Hid (OwnC w wr A1 c1 X)) (fun _ _ i _ => l.length - (intOf i).toNat)
  case atStart => exact ⟨0, none, 0, [], 0, by omega, rfl, rfl, rfl, Lib.hid ⟨rfl, rfl⟩, Lib.hid ⟨World.ownsRow_nil _ _ _ _, Below.refl _ _⟩⟩
  case round =>
    obtain ⟨k, A1, c1, X, g, hk, rfl, rfl, rfl, HX, HO⟩ := hrel
    by_cases hlt : k < l.length
    · have hki : (k : Int) < (l.length : Int) := by omega
      obtain ⟨b, off, rfl, hc⟩ := (HP.out.below HO.out.2).some_ (by omega)
      obtain ⟨p, hp⟩ := getElem?_lt hlt
      obtain ⟨q1, q2⟩ := hc k p hp
      have HS := Lib.hid (keep_snoc s u (l.take k) p)
      have HT := Lib.hid (take_snoc l k p hp)
      have b1 := in_bd (HI.out p (mem_of_at hp))
      obtain ⟨n1, n2⟩ := un_bd (i := p.1) HR.out 262144 (by omega) (by omega)
      have hw := (HP.out.2.1 p (mem_of_at hp)).2.2
      have hx : X.length ≤ 1000 := by
        rw [HX.out.1]
        have := List.length_filter_le (fun p => G s u p.1) (l.take k)
        rw [List.length_take] at this
        unfold keepL
        omega
      obtain ⟨g0, g1⟩ := HN.out k
      obtain ⟨g2, g3⟩ := HN.out (k + 1)
      rw [← HX.out.2] at g0 g1
      obtain ⟨pi, pc⟩ := p
      simp only at q1 q2 HS b1 n1 n2 hw
      have hlb := block_lt_of_cell q1
      simp only at hlb
      clear hc hp
      by_cases hg : u < un s pi
      · have hg1 : decide (u < un s pi) = true := by simpa using hg
        have HS1 := Lib.hid (HS.out.1 hg)
        clear hg g2 g3 HS
        go_wp2_with (first
          | (go_at_call 110; refine (units_yes _ _ _ HR.out (by omega) (by omega)).mono ?_; rintro e w' ⟨rfl, rfl⟩)
          | (at_builtin; refine app_bkt rfl _ _ rfl w.heap.size A1 X.length c1 X rfl ?c0 (wr.heap.size + 1) rfl (pi, pc) ?c1 ?c2 ?c3 ?c4 ?_))
        case c0 => exact ((HO.out.alloc _).alloc _).1
        case c3 => omega
        case c4 => exact ((HO.out.alloc _).alloc _).2.size
        intro A2 c2 w2 hown hgrow
        have HO2 := Lib.hid (show OwnC w w2 A2 c2 (X ++ [(pi, pc)]) from ⟨by rw [List.length_append]; exact hown, below_own ((HO.out.alloc _).alloc _).2 ((HO.out.alloc _).alloc _).2.size ((HO.out.alloc _).alloc _).1 hgrow⟩)
        clear hown hgrow
        go_wp2_with fail
        go_roundw
        case rel => exact ⟨k + 1, A2, c2, X ++ [(pi, pc)], g, by omega, by go_num, by rw [List.length_append]; rfl, rfl, Lib.hid (by rw [HT.out, HS1.out.1, HS1.out.2, ← HX.out.1, ← HX.out.2]; exact ⟨rfl, rfl⟩), HO2⟩
        case measure => simp [intOf]; omega
      · have hg1 : decide (u < un s pi) = false := by simpa using hg
        have HS1 := Lib.hid (HS.out.2 hg)
        have hsum : g + pc ≤ 18446744073709551615 := by
          rw [HT.out, HS1.out.2, ← HX.out.2] at g3
          omega
        clear hg g2 g3 HS
        go_wp2_with (go_at_call 110; refine (units_yes _ _ _ HR.out (by omega) (by omega)).mono ?_; rintro e w' ⟨rfl, rfl⟩)
        go_roundw
        case rel => exact ⟨k + 1, A1, c1, X, g + pc, by omega, by go_num, rfl, by go_num, Lib.hid (by rw [HT.out, HS1.out.1, HS1.out.2, ← HX.out.1, ← HX.out.2]; exact ⟨rfl, rfl⟩), Lib.hid (HO.out.alloc _)⟩
        case measure => simp [intOf]; omega
    · obtain rfl : k = l.length := by omega
      have hki : ¬ ((l.length : Int) < (l.length : Int)) := by omega
      have hX := HX.out
      rw [List.take_length] at hX
      obtain ⟨rfl, rfl⟩ := hX
      have H1 := Lib.hid (HO.out.bk (fun p hp => HP.out.2.1 p (List.mem_filter.1 hp).1) (by have := List.length_filter_le (fun p => G s u p.1) l; unfold keepL; omega))
      have H2 := Lib.hid (And.intro HO.out.2 HO.out.new)
      clear HO HX
      go_wp2_with fail
      go_ret2
      exact ⟨A1, c1, rfl, H1.out, H2.out⟩
set_option maxHeartbeats 2000000 in
set_option maxRecDepth 100000 in
theorem outside_any (k s z zc ct sm u : Int) (A B : Option Addr) (c d : Nat) (P Q : List (Int × Int)) (w : World) (hP : Bk w A P) (hQ : Bk w B Q) (hlp : P.length ≤ 1000) (hlq : Q.length ≤ 1000) (R : rightB s = true) (hi : ∀ p ∈ P ++ Q, inB s p.1 = true) :
    Calls Tryz.prog 177 #[.agg #[.int .i64 k, .int .i64 s, .int .i64 z, .int .u64 zc, .int .u64 ct, .int .i64 sm, .slice A P.length c, .slice B Q.length d], .int .i64 u] w fun e w' => e = .returned (.int .i64 (outF s (P ++ Q) u)) ∧ Below w.heap.size w w' := by
  have hb0 : Below w.heap.size w (w.alloc (.cells #[.int .i64 k, .int .i64 s, .int .i64 z, .int .u64 zc, .int .u64 ct, .int .i64 sm, .slice A P.length c, .slice B Q.length d] 39)) := (Below.refl _ _).alloc (Nat.le_refl _) _
  have HBX := Lib.hid (box8b (heap_alloc_new w (.cells #[.int .i64 k, .int .i64 s, .int .i64 z, .int .u64 zc, .int .u64 ct, .int .i64 sm, .slice A P.length c, .slice B Q.length d] 39)))
  have HP := Lib.hid (hP.below hb0)
  have HQ := Lib.hid (hQ.below hb0)
  have HB0 := Lib.hid hb0
  have HR := Lib.hid R
  obtain ⟨L, hL⟩ : ∃ L, P ++ Q = L := ⟨_, rfl⟩
  have hll : L.length ≤ 2000 := by rw [← hL, List.length_append]; omega
  have hlen : (L.length : Int) ≤ 2000 := by omega
  rw [hL] at hi ⊢
  have HL := Lib.hid hL
  have HI := Lib.hid hi
  clear hP hQ hb0 hL hi R
  go_enter Tryz.func177, Tryz.ntmps177
  go_wp2_with fail
  refine (concat_two (w.heap.size + 1) 2 A B c d P Q L _ (HP.out.below ((Below.refl _ _).alloc (Nat.le_refl _) _)) (HQ.out.below ((Below.refl _ _).alloc (Nat.le_refl _) _)) (new_two2 w _ _ _ _).1 (new_two2 w _ _ _ _).2 HL.out (by omega)).mono ?_
  rintro e w1 ⟨A1, c1, rfl, hB, hb1⟩
  have HB1 := Lib.hid (show Below (w.heap.size + 1) (w.alloc (.cells #[.int .i64 k, .int .i64 s, .int .i64 z, .int .u64 zc, .int .u64 ct, .int .i64 sm, .slice A P.length c, .slice B Q.length d] 39)) w1 by
    have h1 : Below (w.heap.size + 1) (w.alloc (.cells #[.int .i64 k, .int .i64 s, .int .i64 z, .int .u64 zc, .int .u64 ct, .int .i64 sm, .slice A P.length c, .slice B Q.length d] 39)) ((w.alloc (.cells #[.int .i64 k, .int .i64 s, .int .i64 z, .int .u64 zc, .int .u64 ct, .int .i64 sm, .slice A P.length c, .slice B Q.length d] 39)).alloc (.cells #[.slice A P.length c, .slice B Q.length d] 37)) := (Below.refl _ _).alloc (by simp) _
    exact h1.trans (hb1.mono (by simp)))
  have HBL := Lib.hid hB
  clear hB hb1
  go_wp2_with fail
  go_loopw [15] (fun i wr => ∃ (j : Nat), j ≤ L.length ∧ i = .int .i64 j ∧ Hid (∀ p ∈ L.take j, ¬ (un s (p.1 - 1) < u ∧ u < un s p.1)) ∧ Below w1.heap.size w1 wr) (fun i _ => L.length - (intOf i).toNat)
  case atStart => exact ⟨0, by omega, rfl, Lib.hid (by simp), Below.refl _ _⟩
  case round =>
    obtain ⟨j, hj, rfl, HNo, hb⟩ := hrel
    have HB := Lib.hid hb
    have HBW := Lib.hid (HB1.out.trans (hb.mono (by have := HB1.out.size; simp at this; omega)))
    have HEnd := Lib.hid (HB0.out.trans (HBW.out.mono (by simp)))
    obtain ⟨x0, x1, x2, x3, x4, x5, x6, x7⟩ := HBX.out wr (HBW.out.mono (by simp))
    have hx := block_lt_of_cell x1
    simp only at hx
    clear hb
    by_cases hlt : j < L.length
    · have hki : (j : Int) < (L.length : Int) := by omega
      obtain ⟨b, off, rfl, hc⟩ := (HBL.out.below HB.out).some_ (by omega)
      obtain ⟨p, hp⟩ := getElem?_lt hlt
      obtain ⟨q1, q2⟩ := hc j p hp
      have b1 := in_bd (HI.out p (mem_of_at hp))
      obtain ⟨n1, n2⟩ := un_bd (i := p.1) HR.out 262144 (by omega) (by omega)
      obtain ⟨m1, m2⟩ := un_bd (i := p.1 - 1) HR.out 262145 (by omega) (by omega)
      have HT := Lib.hid (take_snoc L j p hp)
      have HM := Lib.hid (mem_of_at hp)
      obtain ⟨pi, pc⟩ := p
      simp only at q1 q2 b1 n1 n2 m1 m2
      have hlb := block_lt_of_cell q1
      simp only at hlb
      clear hc hp
      by_cases h1 : un s (pi - 1) < u
      · have d1 : decide (un s (pi - 1) < u) = true := by simpa using h1
        by_cases h2 : u < un s pi
        · have d2 : decide (u < un s pi) = true := by simpa using h2
          have HE := Lib.hid (outF_here HR.out HM.out h1 h2)
          clear h1 h2
          go_wp2_with (first
            | (go_at_call 110; refine (units_yes _ _ _ HR.out (by omega) (by omega)).mono ?_; rintro e w' ⟨rfl, rfl⟩)
            | (go_at_call 85; refine (low_yes _ _ _ HR.out (by omega) (by omega) (by omega) (by omega)).mono ?_; rintro e w' ⟨rfl, rfl⟩))
          go_ret
          exact ⟨ret_int HE.out.symm, HEnd.out.alloc HEnd.out.size _⟩
        · have d2 : decide (u < un s pi) = false := by simpa using h2
          have HN1 := Lib.hid (show ¬ (un s (pi - 1) < u ∧ u < un s pi) from fun h => h2 h.2)
          clear h1 h2
          go_wp2_with (first
            | (go_at_call 110; refine (units_yes _ _ _ HR.out (by omega) (by omega)).mono ?_; rintro e w' ⟨rfl, rfl⟩)
            | (go_at_call 85; refine (low_yes _ _ _ HR.out (by omega) (by omega) (by omega) (by omega)).mono ?_; rintro e w' ⟨rfl, rfl⟩))
          go_roundw
          case rel => exact ⟨j + 1, by omega, by go_num, Lib.hid (by rw [HT.out]; exact all_snoc HNo.out HN1.out), HB.out.alloc HB.out.size _⟩
          case measure => simp [intOf]; omega
      · have d1 : decide (un s (pi - 1) < u) = false := by simpa using h1
        have HN1 := Lib.hid (show ¬ (un s (pi - 1) < u ∧ u < un s pi) from fun h => h1 h.1)
        clear h1
        go_wp2_with (first
          | (go_at_call 110; refine (units_yes _ _ _ HR.out (by omega) (by omega)).mono ?_; rintro e w' ⟨rfl, rfl⟩)
          | (go_at_call 85; refine (low_yes _ _ _ HR.out (by omega) (by omega) (by omega) (by omega)).mono ?_; rintro e w' ⟨rfl, rfl⟩))
        go_roundw
        case rel => exact ⟨j + 1, by omega, by go_num, Lib.hid (by rw [HT.out]; exact all_snoc HNo.out HN1.out), HB.out.alloc HB.out.size _⟩
        case measure => simp [intOf]; omega
    · obtain rfl : j = L.length := by omega
      have hki : ¬ ((L.length : Int) < (L.length : Int)) := by omega
      have HE := Lib.hid (outF_none HR.out (u := u) (L := L) (fun p hp => HNo.out p (by rw [List.take_length]; exact hp)))
      go_wp2_with fail
      go_ret
      exact ⟨ret_int HE.out.symm, HEnd.out⟩
end Go.Proofs.YtakomfnajeolcaaGreatDoor
