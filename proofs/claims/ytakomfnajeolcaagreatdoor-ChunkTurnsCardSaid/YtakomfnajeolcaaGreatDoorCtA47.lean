import Derived.Test.YtakomfnajeolcaaGreatDoorCtA46
set_option linter.unusedVariables false
/- The law's Same. -/
namespace Go.Proofs.YtakomfnajeolcaaGreatDoor.Ch
open Go.RowKit Go.Sort Go.Proofs.YtakomfnajeolcaaGreatDoor.En
set_option linter.unusedVariables false

def sameH (a b : HV) : Bool := sameF a.k a.s a.z a.zc a.ct a.sm b.k b.s b.z b.zc b.ct b.sm a.P a.Q b.P b.Q
theorem eql_yes {P Q : List (Int × Int)} (h : eqL P Q = true) : P = Q := of_decide_eq_true h
theorem eql_refl (P : List (Int × Int)) : eqL P P = true := decide_eq_true rfl
theorem sameH_iff {a b : HV} : sameH a b = true ↔ a = b := by
  unfold sameH
  constructor
  · intro h
    by_cases he : a.k = b.k ∧ a.s = b.s ∧ a.z = b.z ∧ a.zc = b.zc ∧ a.ct = b.ct ∧ a.sm = b.sm
    · rw [sameF_yes he, Bool.and_eq_true] at h
      exact HV.eq he.1 he.2.1 he.2.2.1 he.2.2.2.1 he.2.2.2.2.1 he.2.2.2.2.2 (eql_yes h.1) (eql_yes h.2)
    · rw [sameF_no he] at h
      exact absurd h (by decide)
  · rintro rfl
    rw [sameF_yes ⟨rfl, rfl, rfl, rfl, rfl, rfl⟩, Bool.and_eq_true]
    exact ⟨eql_refl _, eql_refl _⟩
theorem sv_ext {a b : SV} (h1 : a.t = b.t) (h2 : a.h = b.h) : a = b := by cases a; cases b; simp_all
set_option maxHeartbeats 4000000 in
set_option maxRecDepth 100000 in
theorem same_sm (D D' : Option Addr) (n n' c c' : Nat) (l l' : List SV) (w : World) (hn : n = l.length) (hn' : n' = l'.length) (h9 : (n : Int) ≤ 70368744177664) (h9' : (n' : Int) ≤ 70368744177664) (h : Sm w D l) (h' : Sm w D' l') :
    Calls Tryz.prog 15 #[.slice D n c, .slice D' n' c'] w fun e w' => ∃ b : Bool, e = .returned (.bool b) ∧ (b = true ↔ l = l') ∧ Below w.heap.size w w' := by
  have HS := Lib.hid (And.intro h h')
  have HN := Lib.hid (And.intro hn hn')
  clear h h' hn hn'
  go_enter Tryz.func15, Tryz.ntmps15
  by_cases hne : n = n'
  · subst hne
    go_wp2_with fail
    go_loopw [13] (fun i wr => ∃ k : Nat, k ≤ n ∧ i = .int .i64 (k : Int) ∧ l.take k = l'.take k ∧ Below w.heap.size w wr) (fun i _ => n - (intOf i).toNat)
    case atStart => exact ⟨0, by omega, rfl, rfl, by first | exact Below.refl _ _ | exact below_drewN (Below.refl _ _) _⟩
    case round =>
      obtain ⟨k, hk, rfl, heq, hb⟩ := hrel
      have HB := Lib.hid hb
      have HEQ := Lib.hid heq
      clear heq hb
      by_cases hlt : k < n
      · have hki : (k : Int) < (n : Int) := by omega
        obtain ⟨x, hx⟩ : ∃ s, l[k]? = some s := ⟨_, List.getElem?_eq_getElem (by have := HN.out; omega)⟩
        obtain ⟨y, hy⟩ : ∃ s, l'[k]? = some s := ⟨_, List.getElem?_eq_getElem (by have := HN.out; omega)⟩
        obtain ⟨b, o, rfl, hatx⟩ := (HS.out.1.below HB.out).at_ hx
        obtain ⟨b', o', rfl, haty⟩ := (HS.out.2.below HB.out).at_ hy
        obtain ⟨A1, B1, c1, d1, ⟨a0, a1, a2, a3, a4, a5, a6, a7, a8⟩, hsx⟩ := hatx.cells
        obtain ⟨A2, B2, c2, d2, ⟨e0, e1, e2, e3, e4, e5, e6, e7, e8⟩, hsy⟩ := haty.cells
        have HXC := Lib.hid (And.intro a0 (And.intro a1 (And.intro a2 (And.intro a3 (And.intro a4 (And.intro a5 (And.intro a6 (And.intro a7 a8))))))))
        have HYC := Lib.hid (And.intro e0 (And.intro e1 (And.intro e2 (And.intro e3 (And.intro e4 (And.intro e5 (And.intro e6 (And.intro e7 e8))))))))
        have HXY := Lib.hid (And.intro hx hy)
        have HSC := Lib.hid (fun (W : World) (hW : Below wr.heap.size wr W) => rsame_any x.h.k x.h.s x.h.z x.h.zc x.h.ct x.h.sm y.h.k y.h.s y.h.z y.h.zc y.h.ct y.h.sm A1 B1 A2 B2 c1 d1 c2 d2 x.h.P x.h.Q y.h.P y.h.Q W (hsx.P.below hW) (hsx.Q.below hW) (hsy.P.below hW) (hsy.Q.below hW))
        obtain ⟨SB, hSB⟩ : ∃ b, sameH x.h y.h = b := ⟨_, rfl⟩
        have HSB := Lib.hid hSB
        rw [show sameF x.h.k x.h.s x.h.z x.h.zc x.h.ct x.h.sm y.h.k y.h.s y.h.z y.h.zc y.h.ct y.h.sm x.h.P x.h.Q y.h.P y.h.Q = SB from hSB] at HSC
        have HNE := Lib.hid (fun (h : ¬ x = y) => show ¬ l = l' from fun e => h (by rw [e] at hx; rw [hx] at hy; exact Option.some.inj hy))
        clear a0 a1 a2 a3 a4 a5 a6 a7 a8 e0 e1 e2 e3 e4 e5 e6 e7 e8 hx hy hatx haty hsx hsy hSB
        by_cases htt : x.t = y.t
        · have hte : (x.t != y.t) = false := by rw [htt]; simp
          have HTT := Lib.hid htt
          clear htt
          go_wp2_with fail
          refine Rg.wp_region_inv (R := fun sl v w => match sl with
              | 16 => v = .slice (some ⟨b, o, none⟩) n c
              | 17 => v = .int .i64 (k : Int)
              | 18 => v = .pointer (some ⟨b, o + k * 9, none⟩)
              | 19 => v = .pointer (some ⟨b, o + k * 9, none⟩)
              | 20 => v = .int .i64 x.t
              | 21 => v = .slice (some ⟨b', o', none⟩) n c'
              | 22 => v = .int .i64 (k : Int)
              | 23 => v = .pointer (some ⟨b', o' + k * 9, none⟩)
              | 24 => v = .pointer (some ⟨b', o' + k * 9, none⟩)
              | 25 => v = .int .i64 y.t
              | 26 => v = .bool false
              | 27 => v = .bool false
              | 28 => v = .slice (some ⟨b, o, none⟩) n c
              | 29 => v = .int .i64 (k : Int)
              | 30 => v = .pointer (some ⟨b, o + k * 9, none⟩)
              | 31 => v = .pointer (some ⟨b, o + k * 9 + 1, none⟩)
              | 32 => v = .agg #[.int .i64 x.h.k, .int .i64 x.h.s, .int .i64 x.h.z, .int .u64 x.h.zc, .int .u64 x.h.ct, .int .i64 x.h.sm, .slice A1 x.h.P.length c1, .slice B1 x.h.Q.length d1]
              | 33 => v = .slice (some ⟨b', o', none⟩) n c'
              | 34 => v = .int .i64 (k : Int)
              | 35 => v = .pointer (some ⟨b', o' + k * 9, none⟩)
              | 36 => v = .pointer (some ⟨b', o' + k * 9 + 1, none⟩)
              | 37 => v = .agg #[.int .i64 y.h.k, .int .i64 y.h.s, .int .i64 y.h.z, .int .u64 y.h.zc, .int .u64 y.h.ct, .int .i64 y.h.sm, .slice A2 y.h.P.length c2, .slice B2 y.h.Q.length d2]
              | 38 => v = .bool SB
              | 39 => v = .bool (!SB)
              | 40 => v = .bool (!SB)
              | _ => True) [16, 17, 18, 19, 20, 21, 22, 23, 24, 25, 26, 27, 28, 29, 30, 31, 32, 33, 34, 35, 36, 37, 38, 39, 40] 42 [false, false, false, false, false, false, false, false, false, false, false, false, false, false, false, false, true, true, true, true, true, true, true, true, true, true, true, true, true, true, true, true, true, true, true, true, true, true, true, true, true, false] (by kernel_rfl) rfl (by kernel_rfl) (by kernel_rfl) (by kernel_rfl) (by kernel_rfl) (by kernel_rfl) ?mono ?good ?done
          case mono =>
            refine List.forall_mem_cons.2 ⟨fun _ _ _ _ _ h => h, ?_⟩
            refine List.forall_mem_cons.2 ⟨fun _ _ _ _ _ h => h, ?_⟩
            refine List.forall_mem_cons.2 ⟨fun _ _ _ _ _ h => h, ?_⟩
            refine List.forall_mem_cons.2 ⟨fun _ _ _ _ _ h => h, ?_⟩
            refine List.forall_mem_cons.2 ⟨fun _ _ _ _ _ h => h, ?_⟩
            refine List.forall_mem_cons.2 ⟨fun _ _ _ _ _ h => h, ?_⟩
            refine List.forall_mem_cons.2 ⟨fun _ _ _ _ _ h => h, ?_⟩
            refine List.forall_mem_cons.2 ⟨fun _ _ _ _ _ h => h, ?_⟩
            refine List.forall_mem_cons.2 ⟨fun _ _ _ _ _ h => h, ?_⟩
            refine List.forall_mem_cons.2 ⟨fun _ _ _ _ _ h => h, ?_⟩
            refine List.forall_mem_cons.2 ⟨fun _ _ _ _ _ h => h, ?_⟩
            refine List.forall_mem_cons.2 ⟨fun _ _ _ _ _ h => h, ?_⟩
            refine List.forall_mem_cons.2 ⟨fun _ _ _ _ _ h => h, ?_⟩
            refine List.forall_mem_cons.2 ⟨fun _ _ _ _ _ h => h, ?_⟩
            refine List.forall_mem_cons.2 ⟨fun _ _ _ _ _ h => h, ?_⟩
            refine List.forall_mem_cons.2 ⟨fun _ _ _ _ _ h => h, ?_⟩
            refine List.forall_mem_cons.2 ⟨fun _ _ _ _ _ h => h, ?_⟩
            refine List.forall_mem_cons.2 ⟨fun _ _ _ _ _ h => h, ?_⟩
            refine List.forall_mem_cons.2 ⟨fun _ _ _ _ _ h => h, ?_⟩
            refine List.forall_mem_cons.2 ⟨fun _ _ _ _ _ h => h, ?_⟩
            refine List.forall_mem_cons.2 ⟨fun _ _ _ _ _ h => h, ?_⟩
            refine List.forall_mem_cons.2 ⟨fun _ _ _ _ _ h => h, ?_⟩
            refine List.forall_mem_cons.2 ⟨fun _ _ _ _ _ h => h, ?_⟩
            refine List.forall_mem_cons.2 ⟨fun _ _ _ _ _ h => h, ?_⟩
            refine List.forall_mem_cons.2 ⟨fun _ _ _ _ _ h => h, ?_⟩
            exact fun _ h => absurd h (by simp)
          case good =>
            refine Rg.good_cons ?_ ?_
            · intro ac w' cx hn
              have e0 := cx.at_ 0 (by kernel_rfl) rfl
              refine .inl ⟨(Rg.wanted_none rfl), fun K hK => ?_⟩
              go_simp
              exact hK _ _ (Below.refl _ _) (fun t ht => by injection ht with ht; subst ht; exact rfl)
            refine Rg.good_cons ?_ ?_
            · intro ac w' cx hn
              have e5 := cx.at_ 5 (by kernel_rfl) rfl
              refine .inl ⟨(Rg.wanted_none rfl), fun K hK => ?_⟩
              go_simp
              exact hK _ _ (Below.refl _ _) (fun t ht => by injection ht with ht; subst ht; exact rfl)
            refine Rg.good_cons ?_ ?_
            · intro ac w' cx hn
              obtain ⟨v16, e16, r16⟩ := hn 16 (Rg.mem_of (by kernel_rfl))
              obtain rfl : v16 = .slice (some ⟨b, o, none⟩) n c := r16
              obtain ⟨v17, e17, r17⟩ := hn 17 (Rg.mem_of (by kernel_rfl))
              obtain rfl : v17 = .int .i64 (k : Int) := r17
              refine .inl ⟨(Rg.wanted_none rfl), fun K hK => ?_⟩
              go_simp
              exact hK _ _ (Below.refl _ _) (fun t ht => by injection ht with ht; subst ht; exact rfl)
            refine Rg.good_cons ?_ ?_
            · intro ac w' cx hn
              obtain ⟨v18, e18, r18⟩ := hn 18 (Rg.mem_of (by kernel_rfl))
              obtain rfl : v18 = .pointer (some ⟨b, o + k * 9, none⟩) := r18
              refine .inl ⟨(Rg.wanted_none rfl), fun K hK => ?_⟩
              go_simp
              exact hK _ _ (Below.refl _ _) (fun t ht => by injection ht with ht; subst ht; exact rfl)
            refine Rg.good_cons ?_ ?_
            · intro ac w' cx hn
              obtain ⟨v19, e19, r19⟩ := hn 19 (Rg.mem_of (by kernel_rfl))
              obtain rfl : v19 = .pointer (some ⟨b, o + k * 9, none⟩) := r19
              have q0 := Tl.cell_belowW HXC.out.1 cx.bel
              refine .inl ⟨(Rg.wanted_none rfl), fun K hK => ?_⟩
              go_simp
              exact hK _ _ (Below.refl _ _) (fun t ht => by injection ht with ht; subst ht; exact rfl)
            refine Rg.good_cons ?_ ?_
            · intro ac w' cx hn
              have e1 := cx.at_ 1 (by kernel_rfl) rfl
              refine .inl ⟨(Rg.wanted_none rfl), fun K hK => ?_⟩
              go_simp
              exact hK _ _ (Below.refl _ _) (fun t ht => by injection ht with ht; subst ht; exact rfl)
            refine Rg.good_cons ?_ ?_
            · intro ac w' cx hn
              have e5 := cx.at_ 5 (by kernel_rfl) rfl
              refine .inl ⟨(Rg.wanted_none rfl), fun K hK => ?_⟩
              go_simp
              exact hK _ _ (Below.refl _ _) (fun t ht => by injection ht with ht; subst ht; exact rfl)
            refine Rg.good_cons ?_ ?_
            · intro ac w' cx hn
              obtain ⟨v21, e21, r21⟩ := hn 21 (Rg.mem_of (by kernel_rfl))
              obtain rfl : v21 = .slice (some ⟨b', o', none⟩) n c' := r21
              obtain ⟨v22, e22, r22⟩ := hn 22 (Rg.mem_of (by kernel_rfl))
              obtain rfl : v22 = .int .i64 (k : Int) := r22
              refine .inl ⟨(Rg.wanted_none rfl), fun K hK => ?_⟩
              go_simp
              exact hK _ _ (Below.refl _ _) (fun t ht => by injection ht with ht; subst ht; exact rfl)
            refine Rg.good_cons ?_ ?_
            · intro ac w' cx hn
              obtain ⟨v23, e23, r23⟩ := hn 23 (Rg.mem_of (by kernel_rfl))
              obtain rfl : v23 = .pointer (some ⟨b', o' + k * 9, none⟩) := r23
              refine .inl ⟨(Rg.wanted_none rfl), fun K hK => ?_⟩
              go_simp
              exact hK _ _ (Below.refl _ _) (fun t ht => by injection ht with ht; subst ht; exact rfl)
            refine Rg.good_cons ?_ ?_
            · intro ac w' cx hn
              obtain ⟨v24, e24, r24⟩ := hn 24 (Rg.mem_of (by kernel_rfl))
              obtain rfl : v24 = .pointer (some ⟨b', o' + k * 9, none⟩) := r24
              have q0 := Tl.cell_belowW HYC.out.1 cx.bel
              refine .inl ⟨(Rg.wanted_none rfl), fun K hK => ?_⟩
              go_simp
              exact hK _ _ (Below.refl _ _) (fun t ht => by injection ht with ht; subst ht; exact rfl)
            refine Rg.good_cons ?_ ?_
            · intro ac w' cx hn
              obtain ⟨v20, e20, r20⟩ := hn 20 (Rg.mem_of (by kernel_rfl))
              obtain rfl : v20 = .int .i64 x.t := r20
              obtain ⟨v25, e25, r25⟩ := hn 25 (Rg.mem_of (by kernel_rfl))
              obtain rfl : v25 = .int .i64 y.t := r25
              refine .inl ⟨(Rg.wanted_none rfl), fun K hK => ?_⟩
              go_simp
              exact hK _ _ (Below.refl _ _) (fun t ht => by injection ht with ht; subst ht; exact rfl)
            refine Rg.good_cons ?_ ?_
            · intro ac w' cx hn
              obtain ⟨v26, e26, r26⟩ := hn 26 (Rg.mem_of (by kernel_rfl))
              obtain rfl : v26 = .bool false := r26
              refine .inl ⟨(Rg.wanted_none rfl), fun K hK => ?_⟩
              go_simp
              exact hK _ _ (Below.refl _ _) (fun t ht => by injection ht with ht; subst ht; exact rfl)
            refine Rg.good_cons ?_ ?_
            · intro ac w' cx hn
              have e0 := cx.at_ 0 (by kernel_rfl) rfl
              obtain ⟨v27, e27, r27⟩ := hn 27 (Rg.mem_of (by kernel_rfl))
              obtain rfl : v27 = .bool false := r27
              refine .inl ⟨((Rg.wanted_some (t := 27) rfl (by kernel_rfl) e27).trans rfl), fun K hK => ?_⟩
              go_simp
              exact hK _ _ (Below.refl _ _) (fun t ht => by injection ht with ht; subst ht; exact rfl)
            refine Rg.good_cons ?_ ?_
            · intro ac w' cx hn
              have e5 := cx.at_ 5 (by kernel_rfl) rfl
              obtain ⟨v27, e27, r27⟩ := hn 27 (Rg.mem_of (by kernel_rfl))
              obtain rfl : v27 = .bool false := r27
              refine .inl ⟨((Rg.wanted_some (t := 27) rfl (by kernel_rfl) e27).trans rfl), fun K hK => ?_⟩
              go_simp
              exact hK _ _ (Below.refl _ _) (fun t ht => by injection ht with ht; subst ht; exact rfl)
            refine Rg.good_cons ?_ ?_
            · intro ac w' cx hn
              obtain ⟨v28, e28, r28⟩ := hn 28 (Rg.mem_of (by kernel_rfl))
              obtain rfl : v28 = .slice (some ⟨b, o, none⟩) n c := r28
              obtain ⟨v29, e29, r29⟩ := hn 29 (Rg.mem_of (by kernel_rfl))
              obtain rfl : v29 = .int .i64 (k : Int) := r29
              obtain ⟨v27, e27, r27⟩ := hn 27 (Rg.mem_of (by kernel_rfl))
              obtain rfl : v27 = .bool false := r27
              refine .inl ⟨((Rg.wanted_some (t := 27) rfl (by kernel_rfl) e27).trans rfl), fun K hK => ?_⟩
              go_simp
              exact hK _ _ (Below.refl _ _) (fun t ht => by injection ht with ht; subst ht; exact rfl)
            refine Rg.good_cons ?_ ?_
            · intro ac w' cx hn
              obtain ⟨v30, e30, r30⟩ := hn 30 (Rg.mem_of (by kernel_rfl))
              obtain rfl : v30 = .pointer (some ⟨b, o + k * 9, none⟩) := r30
              obtain ⟨v27, e27, r27⟩ := hn 27 (Rg.mem_of (by kernel_rfl))
              obtain rfl : v27 = .bool false := r27
              refine .inl ⟨((Rg.wanted_some (t := 27) rfl (by kernel_rfl) e27).trans rfl), fun K hK => ?_⟩
              go_simp
              exact hK _ _ (Below.refl _ _) (fun t ht => by injection ht with ht; subst ht; exact rfl)
            refine Rg.good_cons ?_ ?_
            · intro ac w' cx hn
              obtain ⟨v31, e31, r31⟩ := hn 31 (Rg.mem_of (by kernel_rfl))
              obtain rfl : v31 = .pointer (some ⟨b, o + k * 9 + 1, none⟩) := r31
              have q1 := Tl.cell_belowW HXC.out.2.1 cx.bel; have q2 := Tl.cell_belowW HXC.out.2.2.1 cx.bel; have q3 := Tl.cell_belowW HXC.out.2.2.2.1 cx.bel; have q4 := Tl.cell_belowW HXC.out.2.2.2.2.1 cx.bel; have q5 := Tl.cell_belowW HXC.out.2.2.2.2.2.1 cx.bel; have q6 := Tl.cell_belowW HXC.out.2.2.2.2.2.2.1 cx.bel; have q7 := Tl.cell_belowW HXC.out.2.2.2.2.2.2.2.1 cx.bel; have q8 := Tl.cell_belowW HXC.out.2.2.2.2.2.2.2.2 cx.bel
              obtain ⟨v27, e27, r27⟩ := hn 27 (Rg.mem_of (by kernel_rfl))
              obtain rfl : v27 = .bool false := r27
              refine .inl ⟨((Rg.wanted_some (t := 27) rfl (by kernel_rfl) e27).trans rfl), fun K hK => ?_⟩
              go_simp
              exact hK _ _ (Below.refl _ _) (fun t ht => by injection ht with ht; subst ht; exact rfl)
            refine Rg.good_cons ?_ ?_
            · intro ac w' cx hn
              have e1 := cx.at_ 1 (by kernel_rfl) rfl
              obtain ⟨v27, e27, r27⟩ := hn 27 (Rg.mem_of (by kernel_rfl))
              obtain rfl : v27 = .bool false := r27
              refine .inl ⟨((Rg.wanted_some (t := 27) rfl (by kernel_rfl) e27).trans rfl), fun K hK => ?_⟩
              go_simp
              exact hK _ _ (Below.refl _ _) (fun t ht => by injection ht with ht; subst ht; exact rfl)
            refine Rg.good_cons ?_ ?_
            · intro ac w' cx hn
              have e5 := cx.at_ 5 (by kernel_rfl) rfl
              obtain ⟨v27, e27, r27⟩ := hn 27 (Rg.mem_of (by kernel_rfl))
              obtain rfl : v27 = .bool false := r27
              refine .inl ⟨((Rg.wanted_some (t := 27) rfl (by kernel_rfl) e27).trans rfl), fun K hK => ?_⟩
              go_simp
              exact hK _ _ (Below.refl _ _) (fun t ht => by injection ht with ht; subst ht; exact rfl)
            refine Rg.good_cons ?_ ?_
            · intro ac w' cx hn
              obtain ⟨v33, e33, r33⟩ := hn 33 (Rg.mem_of (by kernel_rfl))
              obtain rfl : v33 = .slice (some ⟨b', o', none⟩) n c' := r33
              obtain ⟨v34, e34, r34⟩ := hn 34 (Rg.mem_of (by kernel_rfl))
              obtain rfl : v34 = .int .i64 (k : Int) := r34
              obtain ⟨v27, e27, r27⟩ := hn 27 (Rg.mem_of (by kernel_rfl))
              obtain rfl : v27 = .bool false := r27
              refine .inl ⟨((Rg.wanted_some (t := 27) rfl (by kernel_rfl) e27).trans rfl), fun K hK => ?_⟩
              go_simp
              exact hK _ _ (Below.refl _ _) (fun t ht => by injection ht with ht; subst ht; exact rfl)
            refine Rg.good_cons ?_ ?_
            · intro ac w' cx hn
              obtain ⟨v35, e35, r35⟩ := hn 35 (Rg.mem_of (by kernel_rfl))
              obtain rfl : v35 = .pointer (some ⟨b', o' + k * 9, none⟩) := r35
              obtain ⟨v27, e27, r27⟩ := hn 27 (Rg.mem_of (by kernel_rfl))
              obtain rfl : v27 = .bool false := r27
              refine .inl ⟨((Rg.wanted_some (t := 27) rfl (by kernel_rfl) e27).trans rfl), fun K hK => ?_⟩
              go_simp
              exact hK _ _ (Below.refl _ _) (fun t ht => by injection ht with ht; subst ht; exact rfl)
            refine Rg.good_cons ?_ ?_
            · intro ac w' cx hn
              obtain ⟨v36, e36, r36⟩ := hn 36 (Rg.mem_of (by kernel_rfl))
              obtain rfl : v36 = .pointer (some ⟨b', o' + k * 9 + 1, none⟩) := r36
              have q1 := Tl.cell_belowW HYC.out.2.1 cx.bel; have q2 := Tl.cell_belowW HYC.out.2.2.1 cx.bel; have q3 := Tl.cell_belowW HYC.out.2.2.2.1 cx.bel; have q4 := Tl.cell_belowW HYC.out.2.2.2.2.1 cx.bel; have q5 := Tl.cell_belowW HYC.out.2.2.2.2.2.1 cx.bel; have q6 := Tl.cell_belowW HYC.out.2.2.2.2.2.2.1 cx.bel; have q7 := Tl.cell_belowW HYC.out.2.2.2.2.2.2.2.1 cx.bel; have q8 := Tl.cell_belowW HYC.out.2.2.2.2.2.2.2.2 cx.bel
              obtain ⟨v27, e27, r27⟩ := hn 27 (Rg.mem_of (by kernel_rfl))
              obtain rfl : v27 = .bool false := r27
              refine .inl ⟨((Rg.wanted_some (t := 27) rfl (by kernel_rfl) e27).trans rfl), fun K hK => ?_⟩
              go_simp
              exact hK _ _ (Below.refl _ _) (fun t ht => by injection ht with ht; subst ht; exact rfl)
            refine Rg.good_cons ?_ ?_
            · intro ac w' cx hn
              obtain ⟨v32, e32, r32⟩ := hn 32 (Rg.mem_of (by kernel_rfl))
              obtain rfl : v32 = .agg #[.int .i64 x.h.k, .int .i64 x.h.s, .int .i64 x.h.z, .int .u64 x.h.zc, .int .u64 x.h.ct, .int .i64 x.h.sm, .slice A1 x.h.P.length c1, .slice B1 x.h.Q.length d1] := r32
              obtain ⟨v37, e37, r37⟩ := hn 37 (Rg.mem_of (by kernel_rfl))
              obtain rfl : v37 = .agg #[.int .i64 y.h.k, .int .i64 y.h.s, .int .i64 y.h.z, .int .u64 y.h.zc, .int .u64 y.h.ct, .int .i64 y.h.sm, .slice A2 y.h.P.length c2, .slice B2 y.h.Q.length d2] := r37
              obtain ⟨v27, e27, r27⟩ := hn 27 (Rg.mem_of (by kernel_rfl))
              obtain rfl : v27 = .bool false := r27
              refine .inl ⟨((Rg.wanted_some (t := 27) rfl (by kernel_rfl) e27).trans rfl), fun K hK => ?_⟩
              go_simp
              refine (HSC.out w' cx.bel).mono ?_
              rintro e w2' ⟨rfl, hb⟩
              exact hK _ _ hb (fun t ht => by injection ht with ht; subst ht; exact rfl)
            refine Rg.good_cons ?_ ?_
            · intro ac w' cx hn
              obtain ⟨v38, e38, r38⟩ := hn 38 (Rg.mem_of (by kernel_rfl))
              obtain rfl : v38 = .bool SB := r38
              obtain ⟨v27, e27, r27⟩ := hn 27 (Rg.mem_of (by kernel_rfl))
              obtain rfl : v27 = .bool false := r27
              refine .inl ⟨((Rg.wanted_some (t := 27) rfl (by kernel_rfl) e27).trans rfl), fun K hK => ?_⟩
              go_simp
              exact hK _ _ (Below.refl _ _) (fun t ht => by injection ht with ht; subst ht; exact rfl)
            refine Rg.good_cons ?_ ?_
            · intro ac w' cx hn
              obtain ⟨v27, e27, r27⟩ := hn 27 (Rg.mem_of (by kernel_rfl))
              obtain rfl : v27 = .bool false := r27
              obtain ⟨v39, e39, r39⟩ := hn 39 (Rg.mem_of (by kernel_rfl))
              obtain rfl : v39 = .bool (!SB) := r39
              refine .inl ⟨(Rg.wanted_none rfl), fun K hK => ?_⟩
              go_simp
              exact hK _ _ (Below.refl _ _) (fun t ht => by injection ht with ht; subst ht; exact rfl)
            exact Rg.good_nil
          case done =>
            intro u w6 hb6 hr
            have q40 : u 40 = .bool (!SB) := hr 40 (by simp)
            simp only [Rg.fillL_cons, Rg.fillL_nil, if_true, if_false, Bool.false_eq_true, q40, List.drop_succ_cons, List.drop_zero]
            have HB6 := Lib.hid (HB.out.trans (hb6.mono HB.out.size))
            clear hr hb6 q40
            cases SB with
            | true =>
              have HE := Lib.hid (show l.take (k + 1) = l'.take (k + 1) from by rw [take_snoc l k x HXY.out.1, take_snoc l' k y HXY.out.2, HEQ.out, sv_ext HTT.out (sameH_iff.1 HSB.out)])
              go_wp2_with fail
              go_roundw
              case rel => exact ⟨k + 1, by omega, by go_num, HE.out, HB6.out⟩
              case measure => simp [intOf]; omega
            | false =>
              have HE := Lib.hid (HNE.out (fun e => by have := HSB.out; rw [e, sameH_iff.2 rfl] at this; cases this))
              go_wp2_with fail
              go_ret
              exact ⟨false, rfl, ⟨fun h => absurd h (by decide), fun h => absurd h HE.out⟩, HB6.out⟩
        · have hte : (x.t != y.t) = true := by simpa using htt
          have HTT := Lib.hid htt
          clear htt
          go_wp2_with fail
          refine Rg.wp_region_inv (R := fun sl v w => match sl with
              | 16 => v = .slice (some ⟨b, o, none⟩) n c
              | 17 => v = .int .i64 (k : Int)
              | 18 => v = .pointer (some ⟨b, o + k * 9, none⟩)
              | 19 => v = .pointer (some ⟨b, o + k * 9, none⟩)
              | 20 => v = .int .i64 x.t
              | 21 => v = .slice (some ⟨b', o', none⟩) n c'
              | 22 => v = .int .i64 (k : Int)
              | 23 => v = .pointer (some ⟨b', o' + k * 9, none⟩)
              | 24 => v = .pointer (some ⟨b', o' + k * 9, none⟩)
              | 25 => v = .int .i64 y.t
              | 26 => v = .bool true
              | 27 => v = .bool true
              | 28 => v = undef
              | 29 => v = undef
              | 30 => v = undef
              | 31 => v = undef
              | 32 => v = undef
              | 33 => v = undef
              | 34 => v = undef
              | 35 => v = undef
              | 36 => v = undef
              | 37 => v = undef
              | 38 => v = undef
              | 39 => v = undef
              | 40 => v = .bool true
              | _ => True) [16, 17, 18, 19, 20, 21, 22, 23, 24, 25, 26, 27, 28, 29, 30, 31, 32, 33, 34, 35, 36, 37, 38, 39, 40] 42 [false, false, false, false, false, false, false, false, false, false, false, false, false, false, false, false, true, true, true, true, true, true, true, true, true, true, true, true, true, true, true, true, true, true, true, true, true, true, true, true, true, false] (by kernel_rfl) rfl (by kernel_rfl) (by kernel_rfl) (by kernel_rfl) (by kernel_rfl) (by kernel_rfl) ?mono ?good ?done
          case mono =>
            refine List.forall_mem_cons.2 ⟨fun _ _ _ _ _ h => h, ?_⟩
            refine List.forall_mem_cons.2 ⟨fun _ _ _ _ _ h => h, ?_⟩
            refine List.forall_mem_cons.2 ⟨fun _ _ _ _ _ h => h, ?_⟩
            refine List.forall_mem_cons.2 ⟨fun _ _ _ _ _ h => h, ?_⟩
            refine List.forall_mem_cons.2 ⟨fun _ _ _ _ _ h => h, ?_⟩
            refine List.forall_mem_cons.2 ⟨fun _ _ _ _ _ h => h, ?_⟩
            refine List.forall_mem_cons.2 ⟨fun _ _ _ _ _ h => h, ?_⟩
            refine List.forall_mem_cons.2 ⟨fun _ _ _ _ _ h => h, ?_⟩
            refine List.forall_mem_cons.2 ⟨fun _ _ _ _ _ h => h, ?_⟩
            refine List.forall_mem_cons.2 ⟨fun _ _ _ _ _ h => h, ?_⟩
            refine List.forall_mem_cons.2 ⟨fun _ _ _ _ _ h => h, ?_⟩
            refine List.forall_mem_cons.2 ⟨fun _ _ _ _ _ h => h, ?_⟩
            refine List.forall_mem_cons.2 ⟨fun _ _ _ _ _ h => h, ?_⟩
            refine List.forall_mem_cons.2 ⟨fun _ _ _ _ _ h => h, ?_⟩
            refine List.forall_mem_cons.2 ⟨fun _ _ _ _ _ h => h, ?_⟩
            refine List.forall_mem_cons.2 ⟨fun _ _ _ _ _ h => h, ?_⟩
            refine List.forall_mem_cons.2 ⟨fun _ _ _ _ _ h => h, ?_⟩
            refine List.forall_mem_cons.2 ⟨fun _ _ _ _ _ h => h, ?_⟩
            refine List.forall_mem_cons.2 ⟨fun _ _ _ _ _ h => h, ?_⟩
            refine List.forall_mem_cons.2 ⟨fun _ _ _ _ _ h => h, ?_⟩
            refine List.forall_mem_cons.2 ⟨fun _ _ _ _ _ h => h, ?_⟩
            refine List.forall_mem_cons.2 ⟨fun _ _ _ _ _ h => h, ?_⟩
            refine List.forall_mem_cons.2 ⟨fun _ _ _ _ _ h => h, ?_⟩
            refine List.forall_mem_cons.2 ⟨fun _ _ _ _ _ h => h, ?_⟩
            refine List.forall_mem_cons.2 ⟨fun _ _ _ _ _ h => h, ?_⟩
            exact fun _ h => absurd h (by simp)
          case good =>
            refine Rg.good_cons ?_ ?_
            · intro ac w' cx hn
              have e0 := cx.at_ 0 (by kernel_rfl) rfl
              refine .inl ⟨(Rg.wanted_none rfl), fun K hK => ?_⟩
              go_simp
              exact hK _ _ (Below.refl _ _) (fun t ht => by injection ht with ht; subst ht; exact rfl)
            refine Rg.good_cons ?_ ?_
            · intro ac w' cx hn
              have e5 := cx.at_ 5 (by kernel_rfl) rfl
              refine .inl ⟨(Rg.wanted_none rfl), fun K hK => ?_⟩
              go_simp
              exact hK _ _ (Below.refl _ _) (fun t ht => by injection ht with ht; subst ht; exact rfl)
            refine Rg.good_cons ?_ ?_
            · intro ac w' cx hn
              obtain ⟨v16, e16, r16⟩ := hn 16 (Rg.mem_of (by kernel_rfl))
              obtain rfl : v16 = .slice (some ⟨b, o, none⟩) n c := r16
              obtain ⟨v17, e17, r17⟩ := hn 17 (Rg.mem_of (by kernel_rfl))
              obtain rfl : v17 = .int .i64 (k : Int) := r17
              refine .inl ⟨(Rg.wanted_none rfl), fun K hK => ?_⟩
              go_simp
              exact hK _ _ (Below.refl _ _) (fun t ht => by injection ht with ht; subst ht; exact rfl)
            refine Rg.good_cons ?_ ?_
            · intro ac w' cx hn
              obtain ⟨v18, e18, r18⟩ := hn 18 (Rg.mem_of (by kernel_rfl))
              obtain rfl : v18 = .pointer (some ⟨b, o + k * 9, none⟩) := r18
              refine .inl ⟨(Rg.wanted_none rfl), fun K hK => ?_⟩
              go_simp
              exact hK _ _ (Below.refl _ _) (fun t ht => by injection ht with ht; subst ht; exact rfl)
            refine Rg.good_cons ?_ ?_
            · intro ac w' cx hn
              obtain ⟨v19, e19, r19⟩ := hn 19 (Rg.mem_of (by kernel_rfl))
              obtain rfl : v19 = .pointer (some ⟨b, o + k * 9, none⟩) := r19
              have q0 := Tl.cell_belowW HXC.out.1 cx.bel
              refine .inl ⟨(Rg.wanted_none rfl), fun K hK => ?_⟩
              go_simp
              exact hK _ _ (Below.refl _ _) (fun t ht => by injection ht with ht; subst ht; exact rfl)
            refine Rg.good_cons ?_ ?_
            · intro ac w' cx hn
              have e1 := cx.at_ 1 (by kernel_rfl) rfl
              refine .inl ⟨(Rg.wanted_none rfl), fun K hK => ?_⟩
              go_simp
              exact hK _ _ (Below.refl _ _) (fun t ht => by injection ht with ht; subst ht; exact rfl)
            refine Rg.good_cons ?_ ?_
            · intro ac w' cx hn
              have e5 := cx.at_ 5 (by kernel_rfl) rfl
              refine .inl ⟨(Rg.wanted_none rfl), fun K hK => ?_⟩
              go_simp
              exact hK _ _ (Below.refl _ _) (fun t ht => by injection ht with ht; subst ht; exact rfl)
            refine Rg.good_cons ?_ ?_
            · intro ac w' cx hn
              obtain ⟨v21, e21, r21⟩ := hn 21 (Rg.mem_of (by kernel_rfl))
              obtain rfl : v21 = .slice (some ⟨b', o', none⟩) n c' := r21
              obtain ⟨v22, e22, r22⟩ := hn 22 (Rg.mem_of (by kernel_rfl))
              obtain rfl : v22 = .int .i64 (k : Int) := r22
              refine .inl ⟨(Rg.wanted_none rfl), fun K hK => ?_⟩
              go_simp
              exact hK _ _ (Below.refl _ _) (fun t ht => by injection ht with ht; subst ht; exact rfl)
            refine Rg.good_cons ?_ ?_
            · intro ac w' cx hn
              obtain ⟨v23, e23, r23⟩ := hn 23 (Rg.mem_of (by kernel_rfl))
              obtain rfl : v23 = .pointer (some ⟨b', o' + k * 9, none⟩) := r23
              refine .inl ⟨(Rg.wanted_none rfl), fun K hK => ?_⟩
              go_simp
              exact hK _ _ (Below.refl _ _) (fun t ht => by injection ht with ht; subst ht; exact rfl)
            refine Rg.good_cons ?_ ?_
            · intro ac w' cx hn
              obtain ⟨v24, e24, r24⟩ := hn 24 (Rg.mem_of (by kernel_rfl))
              obtain rfl : v24 = .pointer (some ⟨b', o' + k * 9, none⟩) := r24
              have q0 := Tl.cell_belowW HYC.out.1 cx.bel
              refine .inl ⟨(Rg.wanted_none rfl), fun K hK => ?_⟩
              go_simp
              exact hK _ _ (Below.refl _ _) (fun t ht => by injection ht with ht; subst ht; exact rfl)
            refine Rg.good_cons ?_ ?_
            · intro ac w' cx hn
              obtain ⟨v20, e20, r20⟩ := hn 20 (Rg.mem_of (by kernel_rfl))
              obtain rfl : v20 = .int .i64 x.t := r20
              obtain ⟨v25, e25, r25⟩ := hn 25 (Rg.mem_of (by kernel_rfl))
              obtain rfl : v25 = .int .i64 y.t := r25
              refine .inl ⟨(Rg.wanted_none rfl), fun K hK => ?_⟩
              go_simp
              exact hK _ _ (Below.refl _ _) (fun t ht => by injection ht with ht; subst ht; exact rfl)
            refine Rg.good_cons ?_ ?_
            · intro ac w' cx hn
              obtain ⟨v26, e26, r26⟩ := hn 26 (Rg.mem_of (by kernel_rfl))
              obtain rfl : v26 = .bool true := r26
              refine .inl ⟨(Rg.wanted_none rfl), fun K hK => ?_⟩
              go_simp
              exact hK _ _ (Below.refl _ _) (fun t ht => by injection ht with ht; subst ht; exact rfl)
            refine Rg.good_cons ?_ ?_
            · intro ac w' cx hn
              have e0 := cx.at_ 0 (by kernel_rfl) rfl
              obtain ⟨v27, e27, r27⟩ := hn 27 (Rg.mem_of (by kernel_rfl))
              obtain rfl : v27 = .bool true := r27
              exact .inr ⟨((Rg.wanted_some (t := 27) rfl (by kernel_rfl) e27).trans rfl), fun t ht => by injection ht with ht; subst ht; exact rfl⟩
            refine Rg.good_cons ?_ ?_
            · intro ac w' cx hn
              have e5 := cx.at_ 5 (by kernel_rfl) rfl
              obtain ⟨v27, e27, r27⟩ := hn 27 (Rg.mem_of (by kernel_rfl))
              obtain rfl : v27 = .bool true := r27
              exact .inr ⟨((Rg.wanted_some (t := 27) rfl (by kernel_rfl) e27).trans rfl), fun t ht => by injection ht with ht; subst ht; exact rfl⟩
            refine Rg.good_cons ?_ ?_
            · intro ac w' cx hn
              obtain ⟨v28, e28, r28⟩ := hn 28 (Rg.mem_of (by kernel_rfl))
              obtain rfl : v28 = undef := r28
              obtain ⟨v29, e29, r29⟩ := hn 29 (Rg.mem_of (by kernel_rfl))
              obtain rfl : v29 = undef := r29
              obtain ⟨v27, e27, r27⟩ := hn 27 (Rg.mem_of (by kernel_rfl))
              obtain rfl : v27 = .bool true := r27
              exact .inr ⟨((Rg.wanted_some (t := 27) rfl (by kernel_rfl) e27).trans rfl), fun t ht => by injection ht with ht; subst ht; exact rfl⟩
            refine Rg.good_cons ?_ ?_
            · intro ac w' cx hn
              obtain ⟨v30, e30, r30⟩ := hn 30 (Rg.mem_of (by kernel_rfl))
              obtain rfl : v30 = undef := r30
              obtain ⟨v27, e27, r27⟩ := hn 27 (Rg.mem_of (by kernel_rfl))
              obtain rfl : v27 = .bool true := r27
              exact .inr ⟨((Rg.wanted_some (t := 27) rfl (by kernel_rfl) e27).trans rfl), fun t ht => by injection ht with ht; subst ht; exact rfl⟩
            refine Rg.good_cons ?_ ?_
            · intro ac w' cx hn
              obtain ⟨v31, e31, r31⟩ := hn 31 (Rg.mem_of (by kernel_rfl))
              obtain rfl : v31 = undef := r31
              have q1 := Tl.cell_belowW HXC.out.2.1 cx.bel; have q2 := Tl.cell_belowW HXC.out.2.2.1 cx.bel; have q3 := Tl.cell_belowW HXC.out.2.2.2.1 cx.bel; have q4 := Tl.cell_belowW HXC.out.2.2.2.2.1 cx.bel; have q5 := Tl.cell_belowW HXC.out.2.2.2.2.2.1 cx.bel; have q6 := Tl.cell_belowW HXC.out.2.2.2.2.2.2.1 cx.bel; have q7 := Tl.cell_belowW HXC.out.2.2.2.2.2.2.2.1 cx.bel; have q8 := Tl.cell_belowW HXC.out.2.2.2.2.2.2.2.2 cx.bel
              obtain ⟨v27, e27, r27⟩ := hn 27 (Rg.mem_of (by kernel_rfl))
              obtain rfl : v27 = .bool true := r27
              exact .inr ⟨((Rg.wanted_some (t := 27) rfl (by kernel_rfl) e27).trans rfl), fun t ht => by injection ht with ht; subst ht; exact rfl⟩
            refine Rg.good_cons ?_ ?_
            · intro ac w' cx hn
              have e1 := cx.at_ 1 (by kernel_rfl) rfl
              obtain ⟨v27, e27, r27⟩ := hn 27 (Rg.mem_of (by kernel_rfl))
              obtain rfl : v27 = .bool true := r27
              exact .inr ⟨((Rg.wanted_some (t := 27) rfl (by kernel_rfl) e27).trans rfl), fun t ht => by injection ht with ht; subst ht; exact rfl⟩
            refine Rg.good_cons ?_ ?_
            · intro ac w' cx hn
              have e5 := cx.at_ 5 (by kernel_rfl) rfl
              obtain ⟨v27, e27, r27⟩ := hn 27 (Rg.mem_of (by kernel_rfl))
              obtain rfl : v27 = .bool true := r27
              exact .inr ⟨((Rg.wanted_some (t := 27) rfl (by kernel_rfl) e27).trans rfl), fun t ht => by injection ht with ht; subst ht; exact rfl⟩
            refine Rg.good_cons ?_ ?_
            · intro ac w' cx hn
              obtain ⟨v33, e33, r33⟩ := hn 33 (Rg.mem_of (by kernel_rfl))
              obtain rfl : v33 = undef := r33
              obtain ⟨v34, e34, r34⟩ := hn 34 (Rg.mem_of (by kernel_rfl))
              obtain rfl : v34 = undef := r34
              obtain ⟨v27, e27, r27⟩ := hn 27 (Rg.mem_of (by kernel_rfl))
              obtain rfl : v27 = .bool true := r27
              exact .inr ⟨((Rg.wanted_some (t := 27) rfl (by kernel_rfl) e27).trans rfl), fun t ht => by injection ht with ht; subst ht; exact rfl⟩
            refine Rg.good_cons ?_ ?_
            · intro ac w' cx hn
              obtain ⟨v35, e35, r35⟩ := hn 35 (Rg.mem_of (by kernel_rfl))
              obtain rfl : v35 = undef := r35
              obtain ⟨v27, e27, r27⟩ := hn 27 (Rg.mem_of (by kernel_rfl))
              obtain rfl : v27 = .bool true := r27
              exact .inr ⟨((Rg.wanted_some (t := 27) rfl (by kernel_rfl) e27).trans rfl), fun t ht => by injection ht with ht; subst ht; exact rfl⟩
            refine Rg.good_cons ?_ ?_
            · intro ac w' cx hn
              obtain ⟨v36, e36, r36⟩ := hn 36 (Rg.mem_of (by kernel_rfl))
              obtain rfl : v36 = undef := r36
              have q1 := Tl.cell_belowW HYC.out.2.1 cx.bel; have q2 := Tl.cell_belowW HYC.out.2.2.1 cx.bel; have q3 := Tl.cell_belowW HYC.out.2.2.2.1 cx.bel; have q4 := Tl.cell_belowW HYC.out.2.2.2.2.1 cx.bel; have q5 := Tl.cell_belowW HYC.out.2.2.2.2.2.1 cx.bel; have q6 := Tl.cell_belowW HYC.out.2.2.2.2.2.2.1 cx.bel; have q7 := Tl.cell_belowW HYC.out.2.2.2.2.2.2.2.1 cx.bel; have q8 := Tl.cell_belowW HYC.out.2.2.2.2.2.2.2.2 cx.bel
              obtain ⟨v27, e27, r27⟩ := hn 27 (Rg.mem_of (by kernel_rfl))
              obtain rfl : v27 = .bool true := r27
              exact .inr ⟨((Rg.wanted_some (t := 27) rfl (by kernel_rfl) e27).trans rfl), fun t ht => by injection ht with ht; subst ht; exact rfl⟩
            refine Rg.good_cons ?_ ?_
            · intro ac w' cx hn
              obtain ⟨v32, e32, r32⟩ := hn 32 (Rg.mem_of (by kernel_rfl))
              obtain rfl : v32 = undef := r32
              obtain ⟨v37, e37, r37⟩ := hn 37 (Rg.mem_of (by kernel_rfl))
              obtain rfl : v37 = undef := r37
              obtain ⟨v27, e27, r27⟩ := hn 27 (Rg.mem_of (by kernel_rfl))
              obtain rfl : v27 = .bool true := r27
              exact .inr ⟨((Rg.wanted_some (t := 27) rfl (by kernel_rfl) e27).trans rfl), fun t ht => by injection ht with ht; subst ht; exact rfl⟩
            refine Rg.good_cons ?_ ?_
            · intro ac w' cx hn
              obtain ⟨v38, e38, r38⟩ := hn 38 (Rg.mem_of (by kernel_rfl))
              obtain rfl : v38 = undef := r38
              obtain ⟨v27, e27, r27⟩ := hn 27 (Rg.mem_of (by kernel_rfl))
              obtain rfl : v27 = .bool true := r27
              exact .inr ⟨((Rg.wanted_some (t := 27) rfl (by kernel_rfl) e27).trans rfl), fun t ht => by injection ht with ht; subst ht; exact rfl⟩
            refine Rg.good_cons ?_ ?_
            · intro ac w' cx hn
              obtain ⟨v27, e27, r27⟩ := hn 27 (Rg.mem_of (by kernel_rfl))
              obtain rfl : v27 = .bool true := r27
              obtain ⟨v39, e39, r39⟩ := hn 39 (Rg.mem_of (by kernel_rfl))
              obtain rfl : v39 = undef := r39
              refine .inl ⟨(Rg.wanted_none rfl), fun K hK => ?_⟩
              go_simp
              exact hK _ _ (Below.refl _ _) (fun t ht => by injection ht with ht; subst ht; exact rfl)
            exact Rg.good_nil
          case done =>
            intro u w6 hb6 hr
            have q40 : u 40 = .bool true := hr 40 (by simp)
            simp only [Rg.fillL_cons, Rg.fillL_nil, if_true, if_false, Bool.false_eq_true, q40, List.drop_succ_cons, List.drop_zero]
            have HB6 := Lib.hid (HB.out.trans (hb6.mono HB.out.size))
            have HE := Lib.hid (HNE.out (fun e => HTT.out (by rw [e])))
            clear hr hb6 q40
            go_wp2_with fail
            go_ret
            exact ⟨false, rfl, ⟨fun h => absurd h (by decide), fun h => absurd h HE.out⟩, HB6.out⟩
      · obtain rfl : k = n := by omega
        have HE := Lib.hid (show l = l' from by have := HEQ.out; rw [HN.out.1, List.take_length, ← HN.out.1, HN.out.2, List.take_length] at this; exact this)
        go_wp2_with fail
        go_ret
        exact ⟨true, rfl, ⟨fun _ => HE.out, fun _ => rfl⟩, HB.out⟩
  · have hd : ((n : Int) != (n' : Int)) = true := by simp; omega
    have HNN := Lib.hid (show ¬ l = l' from fun e => hne (by rw [HN.out.1, HN.out.2, e]))
    clear hne
    go_wp2_with fail
    go_ret
    exact ⟨false, rfl, ⟨fun h => absurd h (by decide), fun h => absurd h HNN.out⟩, Below.refl _ _⟩
end Go.Proofs.YtakomfnajeolcaaGreatDoor.Ch
