import Derived.Test.YtakomfnajeolcaaGreatDoorCtA45
set_option linter.unusedVariables false
/- Encode: the walk. -/
namespace Go.Proofs.YtakomfnajeolcaaGreatDoor.Ch
open Go.RowKit Go.Sort Go.Proofs.YtakomfnajeolcaaGreatDoor.En
set_option linter.unusedVariables false

set_option maxHeartbeats 8000000 in
set_option maxRecDepth 100000 in
theorem encode_any (D : Option Addr) (n cp : Nat) (l : List SV) (w : World) (hn : n = l.length) (hn1 : (n : Int) ≤ 70368744177664) (hcp : n ≤ cp ∧ cp ≤ 9223372036854775807) (h : Sm w D l) (hk : Cpd w D l) (hsm : Sums l) (hT : Tk.Tab w) :
    Calls Tryz.prog 11 #[.slice D n cp] w (EncP w l) := by
  have HC := Lib.hid (checked_any D n cp l w hn hn1 h hsm)
  have HS := Lib.hid (And.intro h hk)
  have HRAW := Lib.hid (sm_raw h hsm)
  have HT := Lib.hid hT
  have HN := Lib.hid hn
  clear h hk hn hT
  go_enter Tryz.func11, Tryz.ntmps11
  go_wp2_with fail
  refine HC.out.mono ?_
  rintro e w2 ⟨f1, A1, n1, c1, f2, B1, n2, d1, rfl, hv, hb⟩
  obtain ⟨E, hE⟩ : ∃ E, chkF l = E := ⟨_, rfl⟩
  have HE := Lib.hid hE
  rw [hE] at hv ⊢
  obtain ⟨g, hg⟩ : ∃ g, w2.heap.size = g := ⟨_, rfl⟩
  obtain ⟨w3, hw3⟩ : ∃ W, w2.alloc (.cells #[.int .i64 0, .slice none 0 0, .int .i64 0, .slice none 0 0] 54) = W := ⟨_, rfl⟩
  have hx0 : w3.heap[g]? = some (.cells #[.int .i64 0, .slice none 0 0, .int .i64 0, .slice none 0 0] 54 (0, 0)) := by rw [← hw3, ← hg]; exact heap_alloc_new _ _
  have hb3 : Below w.heap.size w w3 := by rw [← hw3]; exact hb.alloc hb.size _
  have hb23 : Below w2.heap.size w2 w3 := by rw [← hw3]; exact (Below.refl _ _).alloc (Nat.le_refl _) _
  obtain ⟨W0, hW0⟩ : ∃ W, ((((w3.setCell ⟨g, 0, none⟩ (.int .i64 f1)).setCell ⟨g, 1, none⟩ (.slice A1 n1 c1)).setCell ⟨g, 2, none⟩ (.int .i64 f2)).setCell ⟨g, 3, none⟩ (.slice B1 n2 d1)) = W := ⟨_, rfl⟩
  have hbW : Below w.heap.size w W0 := by rw [← hW0]; exact sets4_below hb3 (by have := hb.size; omega) _ _ _ _
  have hb2W : Below w2.heap.size w2 W0 := by rw [← hW0]; exact sets4_below hb23 (by omega) _ _ _ _
  have hsz : W0.heap.size = g + 1 := by rw [← hW0, ← hw3]; simp [World.setCell, hg]
  have hbox : W0.heap[g]? = some (.cells #[.int .i64 f1, .slice A1 n1 c1, .int .i64 f2, .slice B1 n2 d1] 54 (0, 0)) := by rw [← hW0]; exact sets4_at hx0 _ _ _ _
  have v0 := bx hx0 0 _ rfl
  have v1 := bx hx0 1 _ rfl
  have v2 := bx hx0 2 _ rfl
  have v3 := bx hx0 3 _ rfl
  have r0 : w3.frozen? ⟨g, 0, none⟩ = false := by simp [World.frozen?, hx0]
  have r1 : w3.frozen? ⟨g, 1, none⟩ = false := by simp [World.frozen?, hx0]
  have r2 : w3.frozen? ⟨g, 2, none⟩ = false := by simp [World.frozen?, hx0]
  have r3 : w3.frozen? ⟨g, 3, none⟩ = false := by simp [World.frozen?, hx0]
  have HV := Lib.hid hv
  have HBW := Lib.hid hbW
  have HB2W := Lib.hid hb2W
  have HSZ := Lib.hid hsz
  have HBOX := Lib.hid hbox
  have HW0 := Lib.hid hW0
  clear hb hb3 hb23 hx0 hE hv hbW hb2W hsz hbox hW0
  by_cases hE0 : E = 0
  · subst hE0
    have hs3 : w3.heap.size = g + 1 := by have := HSZ.out; rw [← HW0.out] at this; simpa [World.setCell] using this
    obtain ⟨w4, hw4⟩ : ∃ W, W0.alloc (.cells #[.slice none 0 0, .int .i64 0] 58) = W := ⟨_, rfl⟩
    have HWG := Lib.hid (show WG (fun _ => False) W0 (g + 1) (g + 2) [] w4 from by
      have := WG.of_ws (ws_new W0)
      rw [hw4, HSZ.out] at this
      exact this)
    have hb4 : Below W0.heap.size W0 w4 := by rw [← hw4]; exact (Below.refl _ _).alloc (Nat.le_refl _) _
    have HB4 := Lib.hid hb4
    have HW4 := Lib.hid hw4
    have HCH := Lib.hid (chn_of HRAW.out HE.out)
    have HTW := Lib.hid (Tl.tab_below HT.out HBW.out)
    have HLV := Lib.hid (show LyV W0 (xsL l) (ysL l) (.agg #[.int .i64 f1, .slice A1 n1 c1, .int .i64 f2, .slice B1 n2 d1]) from (HV.out rfl).below HB2W.out)
    have HS0 := Lib.hid (And.intro (HS.out.1.below HBW.out) (HS.out.2.below HBW.out))
    obtain ⟨x0, hx0⟩ : ∃ s, l[0]? = some s := ⟨_, List.getElem?_eq_getElem (List.length_pos_iff.2 HCH.out.ne)⟩
    obtain ⟨b, o, A0, B0, c0, d0, rfl, ⟨a0, a1, a2, a3, a4, a5, a6, a7, a8⟩, hsb0, kP0, kQ0⟩ := sm_all (HS0.out.1.below hb4) (HS0.out.2.below hb4) hx0
    rw [Nat.zero_mul, Nat.add_zero] at a0 a1 a2 a3 a4 a5 a6 a7 a8
    have HX0 := Lib.hid hx0
    have HD0 := Lib.hid (show hdS l = x0 from by
      unfold hdS
      cases l with
      | nil => simp at hx0
      | cons a r => simp at hx0; exact hx0)
    have HQ0 := Lib.hid (And.intro a1 (And.intro a2 (And.intro a3 (And.intro a4 (And.intro a5 (And.intro a6 (And.intro a7 a8)))))))
    have HY4 := Lib.hid ((hb4.block g (by have := HSZ.out; omega)).trans HBOX.out)
    have hn32 : n ≤ 32 := by have := HCH.out.le; have := HN.out; omega
    have hn0 : 0 < n := by have := List.length_pos_iff.2 HCH.out.ne; have := HN.out; omega
    clear a0 a1 a2 a3 a4 a5 a6 a7 a8 hsb0 kP0 kQ0 hx0 hb4
    go_wp2_with fail
    rw [HW0.out]
    clear v0 v1 v2 v3 r0 r1 r2 r3
    simp only [HW4.out]
    have GLT := Lib.hid (show g < w4.heap.size from by have := HSZ.out; have := HB4.out.size; omega)
    clear hs3 hw4
    refine Rg.wp_region_invG (R := fun sl v w => match sl with
        | 19 => v = .slice (some ⟨b, o, none⟩) n cp
        | 20 => v = .pointer (some ⟨b, o, none⟩)
        | 21 => v = .pointer (some ⟨b, o + 1, none⟩)
        | 22 => v = .agg #[.int .i64 x0.h.k, .int .i64 x0.h.s, .int .i64 x0.h.z, .int .u64 x0.h.zc, .int .u64 x0.h.ct, .int .i64 x0.h.sm, .slice A0 x0.h.P.length c0, .slice B0 x0.h.Q.length d0]
        | 23 => v = .agg #[.int .i64 f1, .slice A1 n1 c1, .int .i64 f2, .slice B1 n2 d1]
        | _ => True) (fun a w => True) 5 [19, 20, 21, 22, 23] 56 [false, false, false, false, false, false, false, false, false, false, false, false, false, false, false, false, false, false, false, true, true, true, true, true, false, false, false, false, false, false, false, false, false, false, false, false, false, false, false, false, false, false, false, false, false, false, false, false, false, false, false, false, false, false, false, false] (by kernel_rfl) rfl (by kernel_rfl) (by kernel_rfl) (by kernel_rfl) (by kernel_rfl) (Nat.le_of_ble_eq_true (by kernel_rfl)) (by kernel_rfl) (by kernel_rfl) ?mono ?g0 ?good ?done
    case mono =>
      refine List.forall_mem_cons.2 ⟨fun _ _ _ _ _ h => h, ?_⟩
      refine List.forall_mem_cons.2 ⟨fun _ _ _ _ _ h => h, ?_⟩
      refine List.forall_mem_cons.2 ⟨fun _ _ _ _ _ h => h, ?_⟩
      refine List.forall_mem_cons.2 ⟨fun _ _ _ _ _ h => h, ?_⟩
      refine List.forall_mem_cons.2 ⟨fun _ _ _ _ _ h => h, ?_⟩
      exact fun _ h => absurd h (by simp)
    case g0 => exact trivial
    case good =>
      refine Rg.goodG_cons ?_ ?_
      · intro ac w' cx hg hn
        have e0 := cx.at_ 0 (by kernel_rfl) rfl
        refine .inl ⟨(Rg.wanted_none rfl), fun K hK => ?_⟩
        go_simp
        exact hK _ _ (Below.refl _ _) (fun t ht => by injection ht with ht; subst ht; exact rfl) trivial
      refine Rg.goodG_cons ?_ ?_
      · intro ac w' cx hg hn
        obtain ⟨v19, e19, r19⟩ := hn 19 (Rg.mem_of (by kernel_rfl))
        obtain rfl : v19 = .slice (some ⟨b, o, none⟩) n cp := r19
        refine .inl ⟨(Rg.wanted_none rfl), fun K hK => ?_⟩
        go_simp
        exact hK _ _ (Below.refl _ _) (fun t ht => by injection ht with ht; subst ht; exact rfl) trivial
      refine Rg.goodG_cons ?_ ?_
      · intro ac w' cx hg hn
        obtain ⟨v20, e20, r20⟩ := hn 20 (Rg.mem_of (by kernel_rfl))
        obtain rfl : v20 = .pointer (some ⟨b, o, none⟩) := r20
        refine .inl ⟨(Rg.wanted_none rfl), fun K hK => ?_⟩
        go_simp
        exact hK _ _ (Below.refl _ _) (fun t ht => by injection ht with ht; subst ht; exact rfl) trivial
      refine Rg.goodG_cons ?_ ?_
      · intro ac w' cx hg hn
        obtain ⟨v21, e21, r21⟩ := hn 21 (Rg.mem_of (by kernel_rfl))
        obtain rfl : v21 = .pointer (some ⟨b, o + 1, none⟩) := r21
        have q1 := Tl.cell_belowW HQ0.out.1 cx.bel; have q2 := Tl.cell_belowW HQ0.out.2.1 cx.bel; have q3 := Tl.cell_belowW HQ0.out.2.2.1 cx.bel; have q4 := Tl.cell_belowW HQ0.out.2.2.2.1 cx.bel; have q5 := Tl.cell_belowW HQ0.out.2.2.2.2.1 cx.bel; have q6 := Tl.cell_belowW HQ0.out.2.2.2.2.2.1 cx.bel; have q7 := Tl.cell_belowW HQ0.out.2.2.2.2.2.2.1 cx.bel; have q8 := Tl.cell_belowW HQ0.out.2.2.2.2.2.2.2 cx.bel
        refine .inl ⟨(Rg.wanted_none rfl), fun K hK => ?_⟩
        go_simp
        exact hK _ _ (Below.refl _ _) (fun t ht => by injection ht with ht; subst ht; exact rfl) trivial
      refine Rg.goodG_cons ?_ ?_
      · intro ac w' cx hg hn
        have e4 := cx.at_ 4 (by kernel_rfl) rfl
        have p0 := bx ((cx.bel.block g GLT.out).trans HY4.out) 0 _ rfl; have p1 := bx ((cx.bel.block g GLT.out).trans HY4.out) 1 _ rfl; have p2 := bx ((cx.bel.block g GLT.out).trans HY4.out) 2 _ rfl; have p3 := bx ((cx.bel.block g GLT.out).trans HY4.out) 3 _ rfl
        refine .inl ⟨(Rg.wanted_none rfl), fun K hK => ?_⟩
        go_simp
        exact hK _ _ (Below.refl _ _) (fun t ht => by injection ht with ht; subst ht; exact rfl) trivial
      exact Rg.goodG_nil
    case done =>
      intro u w6 hb6 hr _
      have q22 : u 22 = .agg #[.int .i64 x0.h.k, .int .i64 x0.h.s, .int .i64 x0.h.z, .int .u64 x0.h.zc, .int .u64 x0.h.ct, .int .i64 x0.h.sm, .slice A0 x0.h.P.length c0, .slice B0 x0.h.Q.length d0] := hr 22 (by simp)
      have q23 : u 23 = .agg #[.int .i64 f1, .slice A1 n1 c1, .int .i64 f2, .slice B1 n2 d1] := hr 23 (by simp)
      simp only [Rg.fillL_cons, Rg.fillL_nil, if_true, if_false, Bool.false_eq_true, q22, q23, List.drop_succ_cons, List.drop_zero]
      have HWG6 := Lib.hid (HWG.out.below hb6)
      clear hr hb6 q22 q23
      go_wp2_with fail
      refine (layhead_g x0.h A0 B0 c0 d0 (xsL l) (ysL l) f1 A1 n1 c1 f2 B1 n2 d1 (fun _ => False) W0 (g + 1) (g + 2) [] w6 HWG6.out (by have := HSZ.out; omega) HTW.out (by simp) (HCH.out.ok x0 (List.mem_of_getElem? HX0.out)) HCH.out.ix HCH.out.iy HLV.out).mono ?_
      rintro e w7 ⟨rfl, r1, _⟩
      have R7 := Lib.hid (show WG (fun _ => False) W0 (g + 1) (g + 2) (headL (hdS l).h.k (hdS l).h.s (hdS l).h.z (xsL l) (ysL l)) w7 from by rw [HD0.out]; simpa using r1)
      clear r1
      have hy0 : (0 : Int) ≤ (n : Int) - 1 := by omega
      go_wp2_with fail
      refine (count_g ((n : Int) - 1) (fun _ => False) W0 (g + 1) (g + 2) _ w7 R7.out (by have := HSZ.out; omega) HTW.out (by have := encK_length HCH.out 0; unfold encK at this; rw [List.length_append, List.length_append] at this; omega) hy0 (by omega)).mono ?_
      rintro e w8 ⟨rfl, r1, _⟩
      have HI0 := Lib.hid (show EnI W0 (g + 1) (g + 2) l 0 none 0 (fun _ => False) [] w8 from ⟨by
        have e : encK l 0 = headL (hdS l).h.k (hdS l).h.s (hdS l).h.z (xsL l) (ysL l) ++ Tk.codeL ((n : Int) - 1).toNat := by
          unfold encK
          rw [show l.length - 1 = ((n : Int) - 1).toNat by have := HN.out; omega]
          simp [rowsOf, bodyL]
        rw [e]; exact r1, RwV.nil _ _ _⟩)
      clear r1 hy0
      go_wp2_with fail
      go_loopw [7, 32] (fun v7 i wr => ∃ (k : Nat) (D : Option Addr) (c : Nat), k ≤ n ∧ i = .int .i64 (k : Int) ∧ v7 = .slice D k c ∧ ∃ (G : Nat → Prop) (vs : List Value), Hid (EnI W0 (g + 1) (g + 2) l k D c G vs wr)) (fun _ i _ => n - (intOf i).toNat)
      case atStart => exact ⟨0, none, 0, by omega, rfl, rfl, _, _, HI0⟩
      case round =>
        obtain ⟨k, D, cR, hk, rfl, rfl, G, vs, HI⟩ := hrel
        by_cases hlt : k < n
        · have hki : (k : Int) < (n : Int) := by omega
          obtain ⟨x, hx⟩ : ∃ s, l[k]? = some s := ⟨_, List.getElem?_eq_getElem (by have := HN.out; omega)⟩
          obtain ⟨b', o', A, B, c, d, eD, ⟨z0, z1, z2, z3, z4, z5, z6, z7, z8⟩, hsb, kP, kQ⟩ := sm_all HS0.out.1 HS0.out.2 hx
          obtain ⟨rfl, rfl⟩ : b = b' ∧ o = o' := by simpa using eD
          have a0 := Tl.cell_belowW z0 HI.out.wg.bel
          have a1 := Tl.cell_belowW z1 HI.out.wg.bel
          have a2 := Tl.cell_belowW z2 HI.out.wg.bel
          have a3 := Tl.cell_belowW z3 HI.out.wg.bel
          have a4 := Tl.cell_belowW z4 HI.out.wg.bel
          have a5 := Tl.cell_belowW z5 HI.out.wg.bel
          have a6 := Tl.cell_belowW z6 HI.out.wg.bel
          have a7 := Tl.cell_belowW z7 HI.out.wg.bel
          have a8 := Tl.cell_belowW z8 HI.out.wg.bel
          have HX := Lib.hid hx
          have HXM := Lib.hid (List.mem_of_getElem? hx)
          have HSB := Lib.hid (And.intro hsb (And.intro kP kQ))
          obtain ⟨W1, hW1⟩ : ∃ W1, wr.alloc (.cells #[.int .i64 x.t, .int .i64 x.h.k, .int .i64 x.h.s, .int .i64 x.h.z, .int .u64 x.h.zc, .int .u64 x.h.ct, .int .i64 x.h.sm, .slice A x.h.P.length c, .slice B x.h.Q.length d] 41 (0, 0)) = W1 := ⟨_, rfl⟩
          obtain ⟨g9, hg9⟩ : ∃ g, wr.heap.size = g := ⟨_, rfl⟩
          have hx9 : W1.heap[g9]? = some (.cells #[.int .i64 x.t, .int .i64 x.h.k, .int .i64 x.h.s, .int .i64 x.h.z, .int .u64 x.h.zc, .int .u64 x.h.ct, .int .i64 x.h.sm, .slice A x.h.P.length c, .slice B x.h.Q.length d] 41 (0, 0)) := by rw [← hW1, ← hg9]; exact heap_alloc_new _ _
          have hb1 : Below wr.heap.size wr W1 := by rw [← hW1]; exact (Below.refl _ _).alloc (Nat.le_refl _) _
          have hsz1 : W1.heap.size = g9 + 1 := by rw [← hW1]; simp [hg9]
          obtain ⟨G1, hG1⟩ : ∃ G1, NewG G wr W1 = G1 := ⟨_, rfl⟩
          have hG9 : G1 g9 := by rw [← hG1]; exact .inr ⟨by omega, by omega⟩
          have HG1 := Lib.hid (show WG G1 W0 (g + 1) (g + 2) (encK l k) W1 from by rw [← hG1]; exact HI.out.wg.more hb1)
          have HRV1 := Lib.hid (show RwV G1 W0.heap.size W1 D cR (rowsK l k) vs from by rw [← hG1]; exact (HI.out.rw.kept (KpG.of_below (fun y hy => HI.out.wg.lt hy) hb1)).inc fun y hy => .inl hy)
          have HX9 := Lib.hid (fun (W : World) (kp : KpG G1 W1 W) => (kp.2 g9 hG9).trans hx9)
          have HKL := Lib.hid (rowsK_length (l := l) (k := k) (by have := HN.out; omega))
          have q0 := bx hx9 0 _ rfl
          have HQ9 := Lib.hid q0
          clear z0 z1 z2 z3 z4 z5 z6 z7 z8 eD hsb kP kQ hx hx9 hb1 hsz1 hG1 hG9 q0
          go_wp2_with fail
          clear a0 a1 a2 a3 a4 a5 a6 a7 a8 hW1 hg9
          refine Rg.wp_region_invG (R := fun sl v w => match sl with
              | 37 => v = .slice (some ⟨b, o, none⟩) n cp
              | 38 => v = .int .i64 (k : Int)
              | 39 => v = .slice (some ⟨b, o, none⟩) k cp
              | 40 => v = .pointer (some ⟨g9, 0, none⟩)
              | 41 => v = .int .i64 x.t
              | _ => True) (fun a w => True) 5 [37, 38, 39, 40, 41] 56 [false, false, false, false, false, false, false, false, false, false, false, false, false, false, false, false, false, false, false, false, false, false, false, false, false, false, false, false, false, false, false, false, false, false, false, false, false, true, true, true, true, true, false, false, false, false, false, false, false, false, false, false, false, false, false, false] (by kernel_rfl) rfl (by kernel_rfl) (by kernel_rfl) (by kernel_rfl) (by kernel_rfl) (Nat.le_of_ble_eq_true (by kernel_rfl)) (by kernel_rfl) (by kernel_rfl) ?mono ?g0 ?good ?done
          case mono =>
            refine List.forall_mem_cons.2 ⟨fun _ _ _ _ _ h => h, ?_⟩
            refine List.forall_mem_cons.2 ⟨fun _ _ _ _ _ h => h, ?_⟩
            refine List.forall_mem_cons.2 ⟨fun _ _ _ _ _ h => h, ?_⟩
            refine List.forall_mem_cons.2 ⟨fun _ _ _ _ _ h => h, ?_⟩
            refine List.forall_mem_cons.2 ⟨fun _ _ _ _ _ h => h, ?_⟩
            exact fun _ h => absurd h (by simp)
          case g0 => exact trivial
          case good =>
            refine Rg.goodG_cons ?_ ?_
            · intro ac w' cx hg hn
              have e0 := cx.at_ 0 (by kernel_rfl) rfl
              refine .inl ⟨(Rg.wanted_none rfl), fun K hK => ?_⟩
              go_simp
              exact hK _ _ (Below.refl _ _) (fun t ht => by injection ht with ht; subst ht; exact rfl) trivial
            refine Rg.goodG_cons ?_ ?_
            · intro ac w' cx hg hn
              have e8 := cx.at_ 8 (by kernel_rfl) rfl
              refine .inl ⟨(Rg.wanted_none rfl), fun K hK => ?_⟩
              go_simp
              exact hK _ _ (Below.refl _ _) (fun t ht => by injection ht with ht; subst ht; exact rfl) trivial
            refine Rg.goodG_cons ?_ ?_
            · intro ac w' cx hg hn
              obtain ⟨v37, e37, r37⟩ := hn 37 (Rg.mem_of (by kernel_rfl))
              obtain rfl : v37 = .slice (some ⟨b, o, none⟩) n cp := r37
              obtain ⟨v38, e38, r38⟩ := hn 38 (Rg.mem_of (by kernel_rfl))
              obtain rfl : v38 = .int .i64 (k : Int) := r38
              refine .inl ⟨(Rg.wanted_none rfl), fun K hK => ?_⟩
              have hh1 : (k : Int) ≤ (cp : Int) := by have := hcp.1; omega
              go_simp
              exact hK _ _ (Below.refl _ _) (fun t ht => by injection ht with ht; subst ht; exact rfl) trivial
            refine Rg.goodG_cons ?_ ?_
            · intro ac w' cx hg hn
              have e9 := cx.at_ 9 (by kernel_rfl) rfl
              refine .inl ⟨(Rg.wanted_none rfl), fun K hK => ?_⟩
              go_simp
              exact hK _ _ (Below.refl _ _) (fun t ht => by injection ht with ht; subst ht; exact rfl) trivial
            refine Rg.goodG_cons ?_ ?_
            · intro ac w' cx hg hn
              obtain ⟨v40, e40, r40⟩ := hn 40 (Rg.mem_of (by kernel_rfl))
              obtain rfl : v40 = .pointer (some ⟨g9, 0, none⟩) := r40
              have q0 := Tl.cell_belowW HQ9.out cx.bel
              refine .inl ⟨(Rg.wanted_none rfl), fun K hK => ?_⟩
              go_simp
              exact hK _ _ (Below.refl _ _) (fun t ht => by injection ht with ht; subst ht; exact rfl) trivial
            exact Rg.goodG_nil
          case done =>
            intro u w6 hb6 hr _
            have q39 : u 39 = .slice (some ⟨b, o, none⟩) k cp := hr 39 (by simp)
            have q41 : u 41 = .int .i64 x.t := hr 41 (by simp)
            simp only [Rg.fillL_cons, Rg.fillL_nil, if_true, if_false, Bool.false_eq_true, q39, q41, List.drop_succ_cons, List.drop_zero]
            have HG6 := Lib.hid (HG1.out.below hb6)
            have HK6 := Lib.hid (KpG.of_below (fun y hy => HG1.out.lt hy) hb6)
            clear hr hb6 q39 q41
            go_wp2_with fail
            refine (laytime_g (some ⟨b, o, none⟩) k cp (l.take k) x.t G1 W0 (g + 1) (g + 2) (encK l k) w6 HG6.out (by have := HSZ.out; omega) HTW.out (by have := encK_length HCH.out k; omega) (by rw [List.length_take]; have := HN.out; omega) (by omega) (HS0.out.1.take k) (fun s hs => HCH.out.t s (List.mem_of_mem_take hs)) (HCH.out.t x HXM.out).1 (HCH.out.t x HXM.out).2 (fun h1 => rise_next HCH.out HX.out h1)).mono ?_
            rintro e w7 ⟨rfl, r1, r2⟩
            have R7 := Lib.hid (And.intro (show WG G1 W0 (g + 1) (g + 2) (encK l k ++ timeL (timesR l k) x.t) w7 from r1) (HK6.out.trans r2))
            clear r1 r2
            have hx7 := HX9.out w7 R7.out.2
            have hy7 := (R7.out.1.bel.block g (by have := HSZ.out; omega)).trans HBOX.out
            have q1 := bx hx7 1 _ rfl
            have q2 := bx hx7 2 _ rfl
            have q3 := bx hx7 3 _ rfl
            have q4 := bx hx7 4 _ rfl
            have q5 := bx hx7 5 _ rfl
            have q6 := bx hx7 6 _ rfl
            have q7 := bx hx7 7 _ rfl
            have q8 := bx hx7 8 _ rfl
            have p0 := bx hy7 0 _ rfl
            have p1 := bx hy7 1 _ rfl
            have p2 := bx hy7 2 _ rfl
            have p3 := bx hy7 3 _ rfl
            clear hx7 hy7
            go_wp2_with fail
            refine (numbers_any x.h A B c d (xsL l) (ysL l) f1 A1 n1 c1 f2 B1 n2 d1 w7 (HSB.out.1.P.below R7.out.1.bel) (HSB.out.1.Q.below R7.out.1.bel) HSB.out.2.1 HSB.out.2.2 (HCH.out.ix.w (by decide)) (HCH.out.iy.w (by decide)) (HCH.out.ok x HXM.out).sm (HLV.out.below R7.out.1.bel)).mono ?_
            rintro e w8 ⟨AR, cr, rfl, hor, hb8⟩
            obtain ⟨m, hm⟩ : ∃ m, nNum (xsL l) (ysL l) = m := ⟨_, rfl⟩
            have HRR := Lib.hid (numsL_chn HCH.out HXM.out)
            have HRK := Lib.hid (rowsK_r HCH.out k)
            have HM9 := Lib.hid (nNum_le HCH.out)
            have HS8 := Lib.hid (encK_snoc HX.out)
            have HKS := Lib.hid (rowsK_snoc HX.out)
            rw [hm] at HRR HRK HM9 HS8
            obtain ⟨rr, hrr⟩ : ∃ r, numsL (xsL l) (ysL l) x.h = r := ⟨_, rfl⟩
            rw [hrr] at hor HRR HS8 HKS ⊢
            have hrl : rr.length = m := HRR.out.1
            obtain ⟨G2, hG2⟩ : ∃ G2, NewG G1 w7 w8 = G2 := ⟨_, rfl⟩
            have HL2 := Lib.hid (fun y (hy : G1 y) => show G2 y from by rw [← hG2]; exact .inl hy)
            have HG2 := Lib.hid (show WG G2 W0 (g + 1) (g + 2) (encK l k ++ timeL (timesR l k) x.t) w8 from by rw [← hG2]; exact R7.out.1.more hb8)
            have HRV2 := Lib.hid (show RwV G2 W0.heap.size w8 D cR (rowsK l k) vs from (HRV1.out.kept (R7.out.2.trans (KpG.of_below (fun y hy => R7.out.1.lt hy) hb8))).inc HL2.out)
            have HOU := Lib.hid (show OwnU G2 W0.heap.size w8 AR cr rr from ⟨Bw.ownsRow_base hor R7.out.1.bel.size, fun y hy => by rw [← hG2]; exact .inr (hor.lt y hy)⟩)
            clear hor hb8 hm hrr hG2 q1 q2 q3 q4 q5 q6 q7 q8 p0 p1 p2 p3
            rw [hrl]
            go_wp2_with fail
            refine (layrow_g D k cR (rowsK l k) AR m cr rr G2 W0 (g + 1) (g + 2) _ w8 HG2.out (by have := HSZ.out; omega) HTW.out (by rw [List.length_append]; have := encK_length HCH.out k; have := timeL_length (timesR l k) x.t; omega) HKL.out.symm (by omega) HRV2.out.rg HRK.out (by have := HM9.out; omega) HRR.out HOU.out.cl.1 HOU.out.cl.2).mono ?_
            rintro e w9 ⟨rfl, r1, r2⟩
            have HG3 := Lib.hid (show WG G2 W0 (g + 1) (g + 2) (encK l (k + 1)) w9 from by rw [HS8.out, ← List.append_assoc]; exact r1)
            have HRV3 := Lib.hid (HRV2.out.kept r2)
            have HOU3 := Lib.hid (HOU.out.kept r2)
            clear r1 r2
            obtain ⟨g8, hg8⟩ : ∃ g, w9.heap.size = g := ⟨_, rfl⟩
            obtain ⟨wA, hwA⟩ : ∃ W, w9.alloc (.cells #[.slice AR m cr] 64) = W := ⟨_, rfl⟩
            have hbA : Below w9.heap.size w9 wA := by rw [← hwA]; exact (Below.refl _ _).alloc (Nat.le_refl _) _
            have hyA : wA.cell? ⟨g8, 0, none⟩ = some (.slice AR m cr) := by rw [← hwA, ← hg8]; exact Tk.new_one _ _ _
            obtain ⟨G4, hG4⟩ : ∃ G4, NewG G2 w9 wA = G4 := ⟨_, rfl⟩
            have HL4 := Lib.hid (fun y (hy : G2 y) => show G4 y from by rw [← hG4]; exact .inl hy)
            have HG4 := Lib.hid (show WG G4 W0 (g + 1) (g + 2) (encK l (k + 1)) wA from by rw [← hG4]; exact HG3.out.more hbA)
            have HKA := Lib.hid (KpG.of_below (fun y hy => HG3.out.lt hy) hbA)
            have HRV4 := Lib.hid (show RwV G4 W0.heap.size wA D cR (rowsK l k) vs from (HRV3.out.kept HKA.out).inc HL4.out)
            have HOU4 := Lib.hid (show OwnU G4 W0.heap.size wA AR cr rr from (HOU3.out.kept HKA.out).inc HL4.out)
            have HYA := Lib.hid hyA
            have HSA := Lib.hid (HG4.out.bel.size)
            have HWA := Lib.hid hwA
            have HG8 := Lib.hid hg8
            clear hbA hyA hG4 hwA hg8
            go_wp2_with (at_builtin; refine app_row rfl _ _ rfl W0.heap.size D k cR vs rfl ?c0 w9.heap.size rfl AR m cr ?c1 (by omega) ?c2 ?_)
            case c0 => have := HRV4.out.own; rw [HKL.out, ← HWA.out] at this; exact this
            case c1 => have := HYA.out; rw [← HWA.out, ← HG8.out] at this; exact this
            case c2 => have := HSA.out; rw [← HWA.out] at this; exact this
            intro D2 c2 w10 ho hgr hat
            rw [HWA.out] at hgr
            have hszA : wA.heap.size = w9.heap.size + 1 := by rw [← HWA.out]; simp
            have HIN := Lib.hid (show EnI W0 (g + 1) (g + 2) l (k + 1) D2 c2 (NewG G4 wA w10) (vs ++ [rowV AR rr cr]) w10 from
              ⟨HG4.out.grown hgr (fun y hy => ⟨HRV4.out.g y (by rw [HKL.out]; exact hy), (HRV4.out.own.lt y (by rw [HKL.out]; exact hy)).1⟩), by
                rw [HKS.out]
                refine HRV4.out.snoc HOU4.out ?_ (by rw [HKL.out]; exact hgr) (fun y hy => ?_)
                · rw [HKL.out]; unfold rowV; rw [hrl]; exact ho
                · rw [HKL.out] at hy
                  have hlt' := (ho.lt y hy).2
                  rcases hat with e | e
                  · rw [e] at hy; exact .inl (HRV4.out.g y (by rw [HKL.out]; exact hy))
                  · rw [e] at hy; injection hy with hy; exact .inr ⟨by omega, hlt'⟩⟩)
            clear ho hgr hat
            go_wp2_with fail
            go_roundw
            case rel => exact ⟨k + 1, D2, c2, by omega, by go_num, rfl, _, _, HIN⟩
            case measure => simp [intOf]; omega
        · obtain rfl : k = n := by omega
          have HWS := Lib.hid (show Tl.WS W0 (g + 1) (g + 2) (encL l) wr from by have := HI.out.wg.ws; rw [HN.out, encK_all] at this; exact this)
          have HLN := Lib.hid (show (encL l).length ≤ 7900000 from by rw [← encK_all]; have := encK_length HCH.out l.length; omega)
          clear HI
          go_wp2_with fail
          refine (bytes_s W0 (g + 1) (g + 2) (encL l) wr HWS.out HLN.out).mono ?_
          rintro e w7 ⟨AZ, cz, bs, rfl, hs, hla, hb⟩
          have HEND := Lib.hid (show EncP w l (.returned (.tuple #[.slice AZ bs.length cz, .int .i64 0])) w7 from ⟨HBW.out.trans (hb.mono HBW.out.size), .inr ⟨HE.out, AZ, cz, bs, rfl, hs, hla⟩⟩)
          clear hs hla hb
          go_wp2_with fail
          exact bodyPost_ret (v := .tuple #[.slice AZ bs.length cz, .int .i64 0]) (by simp [results, Tryz.results11, go_sem]) rfl HEND.out
      
  · have hE' : (E != 0) = true := by simpa using hE0
    have HNE := Lib.hid hE0
    clear hE0
    go_wp2_with fail
    exact bodyPost_ret (v := .tuple #[.slice none 0 0, .int .i64 E]) (by simp [results, Tryz.results11, go_sem]) rfl ⟨by have := HBW.out; rw [← HW0.out] at this; exact this, .inl ⟨by rw [HE.out]; exact HNE.out, by rw [HE.out]⟩⟩
end Go.Proofs.YtakomfnajeolcaaGreatDoor.Ch


/- Decode. -/
namespace Go.Proofs.YtakomfnajeolcaaGreatDoor.Ch
open Go.RowKit Go.Sort Go.Proofs.YtakomfnajeolcaaGreatDoor.En
set_option linter.unusedVariables false

/-- bytes that are a chunk's -/
def DecOk (bs : List Nat) : Prop := chkF (takeF bs) = 0 ∧ Tl.LaidL bs (encL (takeF bs))
def DecP (w : World) (bs : List Nat) (e : Ending) (w' : World) : Prop :=
  Below w.heap.size w w' ∧ ((DecOk bs ∧ ∃ D c, e = .returned (.tuple #[.slice D (takeF bs).length c, .int .i64 0]) ∧ Sm w' D (takeF bs) ∧ Cpd w' D (takeF bs) ∧ Sums (takeF bs) ∧ ((takeF bs).length ≤ c ∧ c ≤ 9223372036854775807)) ∨
    (¬ DecOk bs ∧ e = .returned (.tuple #[.slice none 0 0, .int .i64 6])))
set_option maxHeartbeats 4000000 in
set_option maxRecDepth 100000 in
theorem decode_any (A : Option Addr) (n c : Nat) (bs : List Nat) (w : World) (h : Tk.Sl w A c bs) (hn : n = bs.length) (h1 : bs.length ≤ 1000000) (hT : Tk.Tab w) :
    Calls Tryz.prog 13 #[.slice A n c] w (DecP w bs) := by
  subst hn
  have HS := Lib.hid h
  have HT := Lib.hid hT
  obtain ⟨m, hm⟩ : ∃ m, bs.length = m := ⟨_, rfl⟩
  have HR := Lib.hid (Tk.read_any A bs.length c bs w h rfl h1)
  have HM := Lib.hid hm
  rw [hm] at HR ⊢
  clear h hT hm h1
  go_enter Tryz.func13, Tryz.ntmps13
  go_wp2_with fail
  refine HR.out.mono ?_
  rintro e w1 ⟨q, a, cq, rfl, hrd, hq, hb1⟩
  have HTK := Lib.hid (take_g w q a m cq bs w1 ⟨hrd, hb1, fun g hg => hg.elim⟩ hq HT.out)
  clear hrd hq hb1
  go_wp2_with fail
  refine HTK.out.mono ?_
  rintro e w2 ⟨D, cD, rfl, hsm, hcp, hsums, hcap, h32, hb2⟩
  have HE := Lib.hid (encode_any D (takeF bs).length cD (takeF bs) w2 rfl (by omega) hcap hsm hcp hsums (Tl.tab_below HT.out hb2))
  have HL := Lib.hid (show Sm w2 D (takeF bs) ∧ Cpd w2 D (takeF bs) ∧ Sums (takeF bs) ∧ ((takeF bs).length ≤ cD ∧ cD ≤ 9223372036854775807) from ⟨hsm, hcp, hsums, hcap⟩)
  have HB2 := Lib.hid hb2
  obtain ⟨k, hk⟩ : ∃ k, (takeF bs).length = k := ⟨_, rfl⟩
  have HK := Lib.hid hk
  rw [hk] at HE ⊢
  clear hsm hcp hsums hcap h32 hb2 hk
  go_wp2_with fail
  refine HE.out.mono ?_
  rintro e w3 ⟨hb3, hc⟩
  have HB3 := Lib.hid hb3
  rcases hc with ⟨hne, rfl⟩ | ⟨h0, A3, c3, b3, rfl, hs3, hl3⟩
  · obtain ⟨E, hE⟩ : ∃ E, chkF (takeF bs) = E := ⟨_, rfl⟩
    have HNO := Lib.hid (show ¬ DecOk bs from fun hd => hne hd.1)
    rw [hE] at hne ⊢
    have hE' : (E != 0) = true := by simpa using hne
    clear hb3 hE hne
    go_wp2_with fail
    exact bodyPost_ret (v := .tuple #[.slice none 0 0, .int .i64 6]) (by simp [results, Tryz.results13, go_sem]) rfl ⟨HB2.out.trans (HB3.out.mono HB2.out.size), .inr ⟨HNO.out, rfl⟩⟩
  · have HEQ := Lib.hid (equal_any A3 A c3 c b3 bs w3 hs3 ((Tk.Sl.kept HS.out (Tk.Kept.of_below HB2.out)).kept (Tk.Kept.of_below HB3.out)))
    obtain ⟨m3, hm3⟩ : ∃ m, b3.length = m := ⟨_, rfl⟩
    rw [hm3, HM.out] at HEQ
    rw [hm3]
    have HL3 := Lib.hid hl3
    have HC0 := Lib.hid h0
    clear hb3 hs3 hl3 h0 hm3
    by_cases hq : b3 = bs
    · have HOK := Lib.hid (show DecOk bs from ⟨HC0.out, by have := HL3.out; rw [hq] at this; exact this⟩)
      have hd : decide (b3 = bs) = true := decide_eq_true hq
      rw [hd] at HEQ
      clear hq hd
      go_wp2_with fail
      refine HEQ.out.mono ?_
      rintro e w4 ⟨rfl, rfl⟩
      go_wp2_with fail
      exact bodyPost_ret (v := .tuple #[.slice D k cD, .int .i64 0]) (by simp [results, Tryz.results13, go_sem]) rfl ⟨HB2.out.trans (HB3.out.mono HB2.out.size), .inl ⟨HOK.out, D, cD, by rw [HK.out], HL.out.1.below HB3.out, HL.out.2.1.below HB3.out, HL.out.2.2.1, HL.out.2.2.2⟩⟩
    · have HNO := Lib.hid (show ¬ DecOk bs from fun hd => hq (HL3.out.inj hd.2))
      have hd : decide (b3 = bs) = false := decide_eq_false hq
      rw [hd] at HEQ
      clear hq hd
      go_wp2_with fail
      refine HEQ.out.mono ?_
      rintro e w4 ⟨rfl, rfl⟩
      go_wp2_with fail
      exact bodyPost_ret (v := .tuple #[.slice none 0 0, .int .i64 6]) (by simp [results, Tryz.results13, go_sem]) rfl ⟨HB2.out.trans (HB3.out.mono HB2.out.size), .inr ⟨HNO.out, rfl⟩⟩
end Go.Proofs.YtakomfnajeolcaaGreatDoor.Ch
