/- Are ranges apart? The law's own answer. -/
import Derived.Test.YtbnbammgjmeicaaDoorTmK
import Derived.Test.YtbnbammgjmeicaaDoorRgI
namespace Go.Proofs.YtbnbammgjmeicaaDoor.Tm
open Go.RowKit Go.Sort
set_option linter.unusedVariables false

set_option maxHeartbeats 4000000 in
set_option maxRecDepth 100000 in
theorem apart_any (A : Option Addr) (n c : Nat) (l : List Rg) (w : World) (hn : n = l.length) (h : Cl w A (twoC .i64 l)) (hc : Can l) (hl : l.length ≤ 10000) :
    Calls Tryd.prog 20 #[.slice A n c] w fun e w' => e = .returned (.bool true) ∧ Below w.heap.size w w' := by
  subst hn
  obtain ⟨n, hn⟩ : ∃ n, l.length = n := ⟨_, rfl⟩
  have HN := Lib.hid hn
  have HL := Lib.hid h
  have HC := Lib.hid hc
  rw [hn] at hl ⊢
  have hni : (n : Int) ≤ 10000 := by omega
  clear h hn hc
  go_enter Tryd.func20, Tryd.ntmps20
  go_wp2_with fail
  go_loopw [7] (fun i wr => ∃ k : Nat, k ≤ n ∧ i = .int .i64 k ∧ Hid (Below w.heap.size w wr)) (fun i _ => n - (intOf i).toNat)
  case atStart => exact ⟨0, by omega, rfl, Lib.hid (Below.refl _ _)⟩
  case round =>
    obtain ⟨k, hk, rfl, HB⟩ := hrel
    by_cases hlt : k < n
    · have hki : (k : Int) < (n : Int) := by omega
      obtain ⟨p, hp⟩ := getElem?_lt (l := l) (k := k) (by rw [HN.out]; exact hlt)
      obtain ⟨b, off, rfl, hcell⟩ := (HL.out.below HB.out).twos (by rw [HN.out]; omega)
      obtain ⟨q0, q1⟩ := hcell k p hp
      have hpr := HC.out.1 p (List.mem_of_getElem? hp)
      have HPR := Lib.hid (show rightB p = true by unfold rightB; simp [hpr])
      have HAT := Lib.hid (fun (j : Nat) (hj : j < k) => show ∃ q : Rg, (wr.cell? ⟨b, off + j * 2 + 1, none⟩ = some (.int .i64 q.2)) ∧ q.2 + 2 ≤ p.1 ∧ 0 ≤ q.2 ∧ q.2 ≤ 1099511627776 from by
        obtain ⟨q, hq⟩ := getElem?_lt (l := l) (k := j) (by rw [HN.out]; omega)
        obtain ⟨r1, r2, r3⟩ := HC.out.1 q (List.mem_of_getElem? hq)
        exact ⟨q, (hcell j q hq).2, (can_at HC.out hj hq hp).1, by omega, r3⟩)
      obtain ⟨p1, p2⟩ := p
      obtain ⟨r1, r2, r3⟩ := hpr
      simp only at q0 q1 r1 r2 r3
      obtain ⟨W4, hW4⟩ : ∃ W4, wr.alloc (.cells #[.int .i64 p1, .int .i64 p2] 32) = W4 := ⟨_, rfl⟩
      obtain ⟨g4, hg4⟩ : ∃ g4, wr.heap.size = g4 := ⟨_, rfl⟩
      have c4 : Below wr.heap.size wr W4 := hW4 ▸ grows wr _
      have X4 := Lib.hid (show W4.heap[g4]? = some (.cells #[.int .i64 p1, .int .i64 p2] 32 (0, 0)) from hg4 ▸ hW4 ▸ heap_alloc_new wr _)
      have B4 := Lib.hid (HB.out.trans (c4.mono HB.out.size))
      have C4 := Lib.hid c4
      have L4 := Lib.hid (show g4 < W4.heap.size by rw [← hW4, ← hg4]; simp)
      clear hcell hp c4
      go_wp2_with fail
      clear hW4 q0 q1
      by_cases h0 : k = 0
      · subst h0
        refine Rg.wp_region_inv (R := fun t v w => match t with
            | 12 => v = .agg #[.int .i64 p1, .int .i64 p2]
            | 13 => v = .bool true
            | 14 => v = .bool false
            | 15 => v = .bool false
            | 16 => v = .int .i64 ((0 : Nat) : Int)
            | 17 => v = .bool false
            | 18 => v = .bool false
            | 19 => v = undef
            | 20 => v = undef
            | 21 => v = undef
            | 22 => v = undef
            | 23 => v = undef
            | 24 => v = undef
            | 25 => v = undef
            | 26 => v = undef
            | 27 => v = undef
            | 28 => v = undef
            | 29 => v = .bool false
            | 30 => v = .bool false
            | _ => True) [12, 13, 14, 15, 16, 17, 18, 19, 20, 21, 22, 23, 24, 25, 26, 27, 28, 29, 30] 32 [false, false, false, false, false, false, false, false, false, false, false, false, true, true, true, true, true, true, true, true, true, true, true, true, true, true, true, true, true, true, true, false] (by kernel_rfl) rfl (by kernel_rfl) (by kernel_rfl) (by kernel_rfl) (by kernel_rfl) (by kernel_rfl) ?mono ?good ?done
        case mono =>
          refine List.forall_mem_cons.2 ⟨fun _ _ _ _ _ h => h, ?_⟩
          refine List.forall_mem_cons.2 ⟨fun _ _ _ _ _ h => h, ?_⟩
          refine List.forall_mem_cons.2 ⟨fun _ _ _ _ _ h => h, ?_⟩
          refine List.forall_mem_cons.2 ⟨fun _ _ _ _ _ h => h, ?_⟩
          refine List.forall_mem_cons.2 ⟨fun _ _ _ _ _ h => h, ?_⟩
          refine List.forall_mem_cons.2 ⟨fun _ _ _ _ _ h => h, ?_⟩
          refine List.forall_mem_cons.2 ⟨fun _ _ _ _ _ h => h, ?_⟩
          refine List.forall_mem_cons.2 ⟨fun _ _ _ _ _ h => h, ?_⟩
          refine List.forall_mem_cons.2 ⟨fun _ _ _ _ _ h => h, ?_⟩
          refine List.forall_mem_cons.2 ⟨fun _ _ _ _ _ h => h, ?_⟩
          refine List.forall_mem_cons.2 ⟨fun _ _ _ _ _ h => h, ?_⟩
          refine List.forall_mem_cons.2 ⟨fun _ _ _ _ _ h => h, ?_⟩
          refine List.forall_mem_cons.2 ⟨fun _ _ _ _ _ h => h, ?_⟩
          refine List.forall_mem_cons.2 ⟨fun _ _ _ _ _ h => h, ?_⟩
          refine List.forall_mem_cons.2 ⟨fun _ _ _ _ _ h => h, ?_⟩
          refine List.forall_mem_cons.2 ⟨fun _ _ _ _ _ h => h, ?_⟩
          refine List.forall_mem_cons.2 ⟨fun _ _ _ _ _ h => h, ?_⟩
          refine List.forall_mem_cons.2 ⟨fun _ _ _ _ _ h => h, ?_⟩
          refine List.forall_mem_cons.2 ⟨fun _ _ _ _ _ h => h, ?_⟩
          exact fun _ h => absurd h (by simp)
        case good =>
          refine Rg.good_cons ?_ ?_
          · intro a w' cx hn
            have e4 := cx.at_ 4 (by kernel_rfl) rfl
            obtain ⟨hx, hy, _⟩ := box2 ((cx.bel.block g4 L4.out).trans X4.out)
            refine .inl ⟨(Rg.wanted_none rfl), fun K hK => ?_⟩
            go_simp
            exact hK _ _ (Below.refl _ _) (fun t ht => by injection ht with ht; subst ht; exact rfl)
          refine Rg.good_cons ?_ ?_
          · intro a w' cx hn
            obtain ⟨v12, e12, r12⟩ := hn 12 (Rg.mem_of (by kernel_rfl))
            obtain rfl : v12 = .agg #[.int .i64 p1, .int .i64 p2] := r12
            refine .inl ⟨(Rg.wanted_none rfl), fun K hK => ?_⟩
            go_simp
            refine (rright_any (p1, p2) w').mono ?_
            rw [HPR.out]
            rintro e w2 ⟨rfl, hb⟩
            exact hK _ _ hb (fun t ht => by injection ht with ht; subst ht; exact rfl)
          refine Rg.good_cons ?_ ?_
          · intro a w' cx hn
            obtain ⟨v13, e13, r13⟩ := hn 13 (Rg.mem_of (by kernel_rfl))
            obtain rfl : v13 = .bool true := r13
            refine .inl ⟨(Rg.wanted_none rfl), fun K hK => ?_⟩
            go_simp
            exact hK _ _ (Below.refl _ _) (fun t ht => by injection ht with ht; subst ht; exact rfl)
          refine Rg.good_cons ?_ ?_
          · intro a w' cx hn
            obtain ⟨v14, e14, r14⟩ := hn 14 (Rg.mem_of (by kernel_rfl))
            obtain rfl : v14 = .bool false := r14
            refine .inl ⟨(Rg.wanted_none rfl), fun K hK => ?_⟩
            go_simp
            exact hK _ _ (Below.refl _ _) (fun t ht => by injection ht with ht; subst ht; exact rfl)
          refine Rg.good_cons ?_ ?_
          · intro a w' cx hn
            have e3 := cx.at_ 3 (by kernel_rfl) rfl
            obtain ⟨v15, e15, r15⟩ := hn 15 (Rg.mem_of (by kernel_rfl))
            obtain rfl : v15 = .bool false := r15
            refine .inl ⟨((Rg.wanted_some (t := 15) rfl (by kernel_rfl) e15).trans rfl), fun K hK => ?_⟩
            go_simp
            exact hK _ _ (Below.refl _ _) (fun t ht => by injection ht with ht; subst ht; exact rfl)
          refine Rg.good_cons ?_ ?_
          · intro a w' cx hn
            obtain ⟨v16, e16, r16⟩ := hn 16 (Rg.mem_of (by kernel_rfl))
            obtain rfl : v16 = .int .i64 ((0 : Nat) : Int) := r16
            obtain ⟨v15, e15, r15⟩ := hn 15 (Rg.mem_of (by kernel_rfl))
            obtain rfl : v15 = .bool false := r15
            refine .inl ⟨((Rg.wanted_some (t := 15) rfl (by kernel_rfl) e15).trans rfl), fun K hK => ?_⟩
            go_simp
            exact hK _ _ (Below.refl _ _) (fun t ht => by injection ht with ht; subst ht; exact rfl)
          refine Rg.good_cons ?_ ?_
          · intro a w' cx hn
            obtain ⟨v17, e17, r17⟩ := hn 17 (Rg.mem_of (by kernel_rfl))
            obtain rfl : v17 = .bool false := r17
            obtain ⟨v15, e15, r15⟩ := hn 15 (Rg.mem_of (by kernel_rfl))
            obtain rfl : v15 = .bool false := r15
            refine .inl ⟨((Rg.wanted_some (t := 15) rfl (by kernel_rfl) e15).trans rfl), fun K hK => ?_⟩
            go_simp
            exact hK _ _ (Below.refl _ _) (fun t ht => by injection ht with ht; subst ht; exact rfl)
          refine Rg.good_cons ?_ ?_
          · intro a w' cx hn
            have e0 := cx.at_ 0 (by kernel_rfl) rfl
            obtain ⟨v18, e18, r18⟩ := hn 18 (Rg.mem_of (by kernel_rfl))
            obtain rfl : v18 = .bool false := r18
            exact .inr ⟨((Rg.wanted_some (t := 18) rfl (by kernel_rfl) e18).trans rfl), fun t ht => by injection ht with ht; subst ht; exact rfl⟩
          refine Rg.good_cons ?_ ?_
          · intro a w' cx hn
            have e3 := cx.at_ 3 (by kernel_rfl) rfl
            obtain ⟨v18, e18, r18⟩ := hn 18 (Rg.mem_of (by kernel_rfl))
            obtain rfl : v18 = .bool false := r18
            exact .inr ⟨((Rg.wanted_some (t := 18) rfl (by kernel_rfl) e18).trans rfl), fun t ht => by injection ht with ht; subst ht; exact rfl⟩
          refine Rg.good_cons ?_ ?_
          · intro a w' cx hn
            obtain ⟨v20, e20, r20⟩ := hn 20 (Rg.mem_of (by kernel_rfl))
            obtain rfl : v20 = undef := r20
            obtain ⟨v18, e18, r18⟩ := hn 18 (Rg.mem_of (by kernel_rfl))
            obtain rfl : v18 = .bool false := r18
            exact .inr ⟨((Rg.wanted_some (t := 18) rfl (by kernel_rfl) e18).trans rfl), fun t ht => by injection ht with ht; subst ht; exact rfl⟩
          refine Rg.good_cons ?_ ?_
          · intro a w' cx hn
            obtain ⟨v19, e19, r19⟩ := hn 19 (Rg.mem_of (by kernel_rfl))
            obtain rfl : v19 = undef := r19
            obtain ⟨v21, e21, r21⟩ := hn 21 (Rg.mem_of (by kernel_rfl))
            obtain rfl : v21 = undef := r21
            obtain ⟨v18, e18, r18⟩ := hn 18 (Rg.mem_of (by kernel_rfl))
            obtain rfl : v18 = .bool false := r18
            exact .inr ⟨((Rg.wanted_some (t := 18) rfl (by kernel_rfl) e18).trans rfl), fun t ht => by injection ht with ht; subst ht; exact rfl⟩
          refine Rg.good_cons ?_ ?_
          · intro a w' cx hn
            obtain ⟨v22, e22, r22⟩ := hn 22 (Rg.mem_of (by kernel_rfl))
            obtain rfl : v22 = undef := r22
            obtain ⟨v18, e18, r18⟩ := hn 18 (Rg.mem_of (by kernel_rfl))
            obtain rfl : v18 = .bool false := r18
            exact .inr ⟨((Rg.wanted_some (t := 18) rfl (by kernel_rfl) e18).trans rfl), fun t ht => by injection ht with ht; subst ht; exact rfl⟩
          refine Rg.good_cons ?_ ?_
          · intro a w' cx hn
            obtain ⟨v23, e23, r23⟩ := hn 23 (Rg.mem_of (by kernel_rfl))
            obtain rfl : v23 = undef := r23
            obtain ⟨v18, e18, r18⟩ := hn 18 (Rg.mem_of (by kernel_rfl))
            obtain rfl : v18 = .bool false := r18
            exact .inr ⟨((Rg.wanted_some (t := 18) rfl (by kernel_rfl) e18).trans rfl), fun t ht => by injection ht with ht; subst ht; exact rfl⟩
          refine Rg.good_cons ?_ ?_
          · intro a w' cx hn
            obtain ⟨v24, e24, r24⟩ := hn 24 (Rg.mem_of (by kernel_rfl))
            obtain rfl : v24 = undef := r24
            obtain ⟨v18, e18, r18⟩ := hn 18 (Rg.mem_of (by kernel_rfl))
            obtain rfl : v18 = .bool false := r18
            exact .inr ⟨((Rg.wanted_some (t := 18) rfl (by kernel_rfl) e18).trans rfl), fun t ht => by injection ht with ht; subst ht; exact rfl⟩
          refine Rg.good_cons ?_ ?_
          · intro a w' cx hn
            have e4 := cx.at_ 4 (by kernel_rfl) rfl
            obtain ⟨v18, e18, r18⟩ := hn 18 (Rg.mem_of (by kernel_rfl))
            obtain rfl : v18 = .bool false := r18
            exact .inr ⟨((Rg.wanted_some (t := 18) rfl (by kernel_rfl) e18).trans rfl), fun t ht => by injection ht with ht; subst ht; exact rfl⟩
          refine Rg.good_cons ?_ ?_
          · intro a w' cx hn
            obtain ⟨v26, e26, r26⟩ := hn 26 (Rg.mem_of (by kernel_rfl))
            obtain rfl : v26 = undef := r26
            obtain ⟨v18, e18, r18⟩ := hn 18 (Rg.mem_of (by kernel_rfl))
            obtain rfl : v18 = .bool false := r18
            exact .inr ⟨((Rg.wanted_some (t := 18) rfl (by kernel_rfl) e18).trans rfl), fun t ht => by injection ht with ht; subst ht; exact rfl⟩
          refine Rg.good_cons ?_ ?_
          · intro a w' cx hn
            obtain ⟨v25, e25, r25⟩ := hn 25 (Rg.mem_of (by kernel_rfl))
            obtain rfl : v25 = undef := r25
            obtain ⟨v27, e27, r27⟩ := hn 27 (Rg.mem_of (by kernel_rfl))
            obtain rfl : v27 = undef := r27
            obtain ⟨v18, e18, r18⟩ := hn 18 (Rg.mem_of (by kernel_rfl))
            obtain rfl : v18 = .bool false := r18
            exact .inr ⟨((Rg.wanted_some (t := 18) rfl (by kernel_rfl) e18).trans rfl), fun t ht => by injection ht with ht; subst ht; exact rfl⟩
          refine Rg.good_cons ?_ ?_
          · intro a w' cx hn
            obtain ⟨v18, e18, r18⟩ := hn 18 (Rg.mem_of (by kernel_rfl))
            obtain rfl : v18 = .bool false := r18
            obtain ⟨v28, e28, r28⟩ := hn 28 (Rg.mem_of (by kernel_rfl))
            obtain rfl : v28 = undef := r28
            obtain ⟨v15, e15, r15⟩ := hn 15 (Rg.mem_of (by kernel_rfl))
            obtain rfl : v15 = .bool false := r15
            refine .inl ⟨((Rg.wanted_some (t := 15) rfl (by kernel_rfl) e15).trans rfl), fun K hK => ?_⟩
            go_simp
            exact hK _ _ (Below.refl _ _) (fun t ht => by injection ht with ht; subst ht; exact rfl)
          refine Rg.good_cons ?_ ?_
          · intro a w' cx hn
            obtain ⟨v15, e15, r15⟩ := hn 15 (Rg.mem_of (by kernel_rfl))
            obtain rfl : v15 = .bool false := r15
            obtain ⟨v29, e29, r29⟩ := hn 29 (Rg.mem_of (by kernel_rfl))
            obtain rfl : v29 = .bool false := r29
            refine .inl ⟨(Rg.wanted_none rfl), fun K hK => ?_⟩
            go_simp
            exact hK _ _ (Below.refl _ _) (fun t ht => by injection ht with ht; subst ht; exact rfl)
          exact Rg.good_nil
        case done =>
          intro u w6 hb6 hr
          have q30 : u 30 = .bool false := hr 30 (by simp)
          simp only [Rg.fillL_cons, Rg.fillL_nil, if_true, if_false, Bool.false_eq_true, q30]
          have B6 := Lib.hid (B4.out.trans (hb6.mono B4.out.size))
          clear hr hb6
          go_wp2_with fail
          go_roundw
          case rel => exact ⟨0 + 1, by omega, by go_num, B6⟩
          case measure => simp [intOf]; omega
      · obtain ⟨j, rfl⟩ : ∃ j, k = j + 1 := ⟨k - 1, by omega⟩
        obtain ⟨q, hq1, hq2, hq3, hq4⟩ := HAT.out j (by omega)
        obtain ⟨qa, qb⟩ := q
        simp only at hq1 hq2 hq3 hq4
        have HQ := Lib.hid (cell_below hq1 C4.out)
        have hd : decide (((j + 1 : Nat) : Int) > 0) = true := by simp
        clear hq1
        refine Rg.wp_region_inv (R := fun t v w => match t with
            | 12 => v = .agg #[.int .i64 p1, .int .i64 p2]
            | 13 => v = .bool true
            | 14 => v = .bool false
            | 15 => v = .bool false
            | 16 => v = .int .i64 ((j + 1 : Nat) : Int)
            | 17 => v = .bool true
            | 18 => v = .bool true
            | 19 => v = .slice (some ⟨b, off, none⟩) n c
            | 20 => v = .int .i64 ((j + 1 : Nat) : Int)
            | 21 => v = .int .i64 (j : Int)
            | 22 => v = .pointer (some ⟨b, off + j * 2, none⟩)
            | 23 => v = .pointer (some ⟨b, off + j * 2 + 1, none⟩)
            | 24 => v = .int .i64 qb
            | 25 => v = .int .i64 (qb + 1)
            | 26 => v = .pointer (some ⟨g4, 0, none⟩)
            | 27 => v = .int .i64 p1
            | 28 => v = .bool false
            | 29 => v = .bool false
            | 30 => v = .bool false
            | _ => True) [12, 13, 14, 15, 16, 17, 18, 19, 20, 21, 22, 23, 24, 25, 26, 27, 28, 29, 30] 32 [false, false, false, false, false, false, false, false, false, false, false, false, true, true, true, true, true, true, true, true, true, true, true, true, true, true, true, true, true, true, true, false] (by kernel_rfl) rfl (by kernel_rfl) (by kernel_rfl) (by kernel_rfl) (by kernel_rfl) (by kernel_rfl) ?mono ?good ?done
        case mono =>
          refine List.forall_mem_cons.2 ⟨fun _ _ _ _ _ h => h, ?_⟩
          refine List.forall_mem_cons.2 ⟨fun _ _ _ _ _ h => h, ?_⟩
          refine List.forall_mem_cons.2 ⟨fun _ _ _ _ _ h => h, ?_⟩
          refine List.forall_mem_cons.2 ⟨fun _ _ _ _ _ h => h, ?_⟩
          refine List.forall_mem_cons.2 ⟨fun _ _ _ _ _ h => h, ?_⟩
          refine List.forall_mem_cons.2 ⟨fun _ _ _ _ _ h => h, ?_⟩
          refine List.forall_mem_cons.2 ⟨fun _ _ _ _ _ h => h, ?_⟩
          refine List.forall_mem_cons.2 ⟨fun _ _ _ _ _ h => h, ?_⟩
          refine List.forall_mem_cons.2 ⟨fun _ _ _ _ _ h => h, ?_⟩
          refine List.forall_mem_cons.2 ⟨fun _ _ _ _ _ h => h, ?_⟩
          refine List.forall_mem_cons.2 ⟨fun _ _ _ _ _ h => h, ?_⟩
          refine List.forall_mem_cons.2 ⟨fun _ _ _ _ _ h => h, ?_⟩
          refine List.forall_mem_cons.2 ⟨fun _ _ _ _ _ h => h, ?_⟩
          refine List.forall_mem_cons.2 ⟨fun _ _ _ _ _ h => h, ?_⟩
          refine List.forall_mem_cons.2 ⟨fun _ _ _ _ _ h => h, ?_⟩
          refine List.forall_mem_cons.2 ⟨fun _ _ _ _ _ h => h, ?_⟩
          refine List.forall_mem_cons.2 ⟨fun _ _ _ _ _ h => h, ?_⟩
          refine List.forall_mem_cons.2 ⟨fun _ _ _ _ _ h => h, ?_⟩
          refine List.forall_mem_cons.2 ⟨fun _ _ _ _ _ h => h, ?_⟩
          exact fun _ h => absurd h (by simp)
        case good =>
          refine Rg.good_cons ?_ ?_
          · intro a w' cx hn
            have e4 := cx.at_ 4 (by kernel_rfl) rfl
            obtain ⟨hx, hy, _⟩ := box2 ((cx.bel.block g4 L4.out).trans X4.out)
            refine .inl ⟨(Rg.wanted_none rfl), fun K hK => ?_⟩
            go_simp
            exact hK _ _ (Below.refl _ _) (fun t ht => by injection ht with ht; subst ht; exact rfl)
          refine Rg.good_cons ?_ ?_
          · intro a w' cx hn
            obtain ⟨v12, e12, r12⟩ := hn 12 (Rg.mem_of (by kernel_rfl))
            obtain rfl : v12 = .agg #[.int .i64 p1, .int .i64 p2] := r12
            refine .inl ⟨(Rg.wanted_none rfl), fun K hK => ?_⟩
            go_simp
            refine (rright_any (p1, p2) w').mono ?_
            rw [HPR.out]
            rintro e w2 ⟨rfl, hb⟩
            exact hK _ _ hb (fun t ht => by injection ht with ht; subst ht; exact rfl)
          refine Rg.good_cons ?_ ?_
          · intro a w' cx hn
            obtain ⟨v13, e13, r13⟩ := hn 13 (Rg.mem_of (by kernel_rfl))
            obtain rfl : v13 = .bool true := r13
            refine .inl ⟨(Rg.wanted_none rfl), fun K hK => ?_⟩
            go_simp
            exact hK _ _ (Below.refl _ _) (fun t ht => by injection ht with ht; subst ht; exact rfl)
          refine Rg.good_cons ?_ ?_
          · intro a w' cx hn
            obtain ⟨v14, e14, r14⟩ := hn 14 (Rg.mem_of (by kernel_rfl))
            obtain rfl : v14 = .bool false := r14
            refine .inl ⟨(Rg.wanted_none rfl), fun K hK => ?_⟩
            go_simp
            exact hK _ _ (Below.refl _ _) (fun t ht => by injection ht with ht; subst ht; exact rfl)
          refine Rg.good_cons ?_ ?_
          · intro a w' cx hn
            have e3 := cx.at_ 3 (by kernel_rfl) rfl
            obtain ⟨v15, e15, r15⟩ := hn 15 (Rg.mem_of (by kernel_rfl))
            obtain rfl : v15 = .bool false := r15
            refine .inl ⟨((Rg.wanted_some (t := 15) rfl (by kernel_rfl) e15).trans rfl), fun K hK => ?_⟩
            go_simp
            exact hK _ _ (Below.refl _ _) (fun t ht => by injection ht with ht; subst ht; exact rfl)
          refine Rg.good_cons ?_ ?_
          · intro a w' cx hn
            obtain ⟨v16, e16, r16⟩ := hn 16 (Rg.mem_of (by kernel_rfl))
            obtain rfl : v16 = .int .i64 ((j + 1 : Nat) : Int) := r16
            obtain ⟨v15, e15, r15⟩ := hn 15 (Rg.mem_of (by kernel_rfl))
            obtain rfl : v15 = .bool false := r15
            refine .inl ⟨((Rg.wanted_some (t := 15) rfl (by kernel_rfl) e15).trans rfl), fun K hK => ?_⟩
            go_simp
            exact hK _ _ (Below.refl _ _) (fun t ht => by injection ht with ht; subst ht; exact rfl)
          refine Rg.good_cons ?_ ?_
          · intro a w' cx hn
            obtain ⟨v17, e17, r17⟩ := hn 17 (Rg.mem_of (by kernel_rfl))
            obtain rfl : v17 = .bool true := r17
            obtain ⟨v15, e15, r15⟩ := hn 15 (Rg.mem_of (by kernel_rfl))
            obtain rfl : v15 = .bool false := r15
            refine .inl ⟨((Rg.wanted_some (t := 15) rfl (by kernel_rfl) e15).trans rfl), fun K hK => ?_⟩
            go_simp
            exact hK _ _ (Below.refl _ _) (fun t ht => by injection ht with ht; subst ht; exact rfl)
          refine Rg.good_cons ?_ ?_
          · intro a w' cx hn
            have e0 := cx.at_ 0 (by kernel_rfl) rfl
            obtain ⟨v18, e18, r18⟩ := hn 18 (Rg.mem_of (by kernel_rfl))
            obtain rfl : v18 = .bool true := r18
            refine .inl ⟨((Rg.wanted_some (t := 18) rfl (by kernel_rfl) e18).trans rfl), fun K hK => ?_⟩
            go_simp
            exact hK _ _ (Below.refl _ _) (fun t ht => by injection ht with ht; subst ht; exact rfl)
          refine Rg.good_cons ?_ ?_
          · intro a w' cx hn
            have e3 := cx.at_ 3 (by kernel_rfl) rfl
            obtain ⟨v18, e18, r18⟩ := hn 18 (Rg.mem_of (by kernel_rfl))
            obtain rfl : v18 = .bool true := r18
            refine .inl ⟨((Rg.wanted_some (t := 18) rfl (by kernel_rfl) e18).trans rfl), fun K hK => ?_⟩
            go_simp
            exact hK _ _ (Below.refl _ _) (fun t ht => by injection ht with ht; subst ht; exact rfl)
          refine Rg.good_cons ?_ ?_
          · intro a w' cx hn
            obtain ⟨v20, e20, r20⟩ := hn 20 (Rg.mem_of (by kernel_rfl))
            obtain rfl : v20 = .int .i64 ((j + 1 : Nat) : Int) := r20
            obtain ⟨v18, e18, r18⟩ := hn 18 (Rg.mem_of (by kernel_rfl))
            obtain rfl : v18 = .bool true := r18
            refine .inl ⟨((Rg.wanted_some (t := 18) rfl (by kernel_rfl) e18).trans rfl), fun K hK => ?_⟩
            have hw := IntWalk.i64_in (j : Int) (by omega)
            go_simp
            exact hK _ _ (Below.refl _ _) (fun t ht => by injection ht with ht; subst ht; exact rfl)
          refine Rg.good_cons ?_ ?_
          · intro a w' cx hn
            obtain ⟨v19, e19, r19⟩ := hn 19 (Rg.mem_of (by kernel_rfl))
            obtain rfl : v19 = .slice (some ⟨b, off, none⟩) n c := r19
            obtain ⟨v21, e21, r21⟩ := hn 21 (Rg.mem_of (by kernel_rfl))
            obtain rfl : v21 = .int .i64 (j : Int) := r21
            obtain ⟨v18, e18, r18⟩ := hn 18 (Rg.mem_of (by kernel_rfl))
            obtain rfl : v18 = .bool true := r18
            refine .inl ⟨((Rg.wanted_some (t := 18) rfl (by kernel_rfl) e18).trans rfl), fun K hK => ?_⟩
            have hji : (j : Int) < (n : Int) := by omega
            go_simp
            exact hK _ _ (Below.refl _ _) (fun t ht => by injection ht with ht; subst ht; exact rfl)
          refine Rg.good_cons ?_ ?_
          · intro a w' cx hn
            obtain ⟨v22, e22, r22⟩ := hn 22 (Rg.mem_of (by kernel_rfl))
            obtain rfl : v22 = .pointer (some ⟨b, off + j * 2, none⟩) := r22
            obtain ⟨v18, e18, r18⟩ := hn 18 (Rg.mem_of (by kernel_rfl))
            obtain rfl : v18 = .bool true := r18
            refine .inl ⟨((Rg.wanted_some (t := 18) rfl (by kernel_rfl) e18).trans rfl), fun K hK => ?_⟩
            go_simp
            exact hK _ _ (Below.refl _ _) (fun t ht => by injection ht with ht; subst ht; exact rfl)
          refine Rg.good_cons ?_ ?_
          · intro a w' cx hn
            obtain ⟨v23, e23, r23⟩ := hn 23 (Rg.mem_of (by kernel_rfl))
            obtain rfl : v23 = .pointer (some ⟨b, off + j * 2 + 1, none⟩) := r23
            have hx := cell_below HQ.out cx.bel
            obtain ⟨v18, e18, r18⟩ := hn 18 (Rg.mem_of (by kernel_rfl))
            obtain rfl : v18 = .bool true := r18
            refine .inl ⟨((Rg.wanted_some (t := 18) rfl (by kernel_rfl) e18).trans rfl), fun K hK => ?_⟩
            go_simp
            exact hK _ _ (Below.refl _ _) (fun t ht => by injection ht with ht; subst ht; exact rfl)
          refine Rg.good_cons ?_ ?_
          · intro a w' cx hn
            obtain ⟨v24, e24, r24⟩ := hn 24 (Rg.mem_of (by kernel_rfl))
            obtain rfl : v24 = .int .i64 qb := r24
            obtain ⟨v18, e18, r18⟩ := hn 18 (Rg.mem_of (by kernel_rfl))
            obtain rfl : v18 = .bool true := r18
            refine .inl ⟨((Rg.wanted_some (t := 18) rfl (by kernel_rfl) e18).trans rfl), fun K hK => ?_⟩
            have hw := IntWalk.i64_in (qb + 1) (by omega)
            go_simp
            exact hK _ _ (Below.refl _ _) (fun t ht => by injection ht with ht; subst ht; exact rfl)
          refine Rg.good_cons ?_ ?_
          · intro a w' cx hn
            have e4 := cx.at_ 4 (by kernel_rfl) rfl
            obtain ⟨v18, e18, r18⟩ := hn 18 (Rg.mem_of (by kernel_rfl))
            obtain rfl : v18 = .bool true := r18
            refine .inl ⟨((Rg.wanted_some (t := 18) rfl (by kernel_rfl) e18).trans rfl), fun K hK => ?_⟩
            go_simp
            exact hK _ _ (Below.refl _ _) (fun t ht => by injection ht with ht; subst ht; exact rfl)
          refine Rg.good_cons ?_ ?_
          · intro a w' cx hn
            obtain ⟨v26, e26, r26⟩ := hn 26 (Rg.mem_of (by kernel_rfl))
            obtain rfl : v26 = .pointer (some ⟨g4, 0, none⟩) := r26
            obtain ⟨hx, hy, _⟩ := box2 ((cx.bel.block g4 L4.out).trans X4.out)
            obtain ⟨v18, e18, r18⟩ := hn 18 (Rg.mem_of (by kernel_rfl))
            obtain rfl : v18 = .bool true := r18
            refine .inl ⟨((Rg.wanted_some (t := 18) rfl (by kernel_rfl) e18).trans rfl), fun K hK => ?_⟩
            go_simp
            exact hK _ _ (Below.refl _ _) (fun t ht => by injection ht with ht; subst ht; exact rfl)
          refine Rg.good_cons ?_ ?_
          · intro a w' cx hn
            obtain ⟨v25, e25, r25⟩ := hn 25 (Rg.mem_of (by kernel_rfl))
            obtain rfl : v25 = .int .i64 (qb + 1) := r25
            obtain ⟨v27, e27, r27⟩ := hn 27 (Rg.mem_of (by kernel_rfl))
            obtain rfl : v27 = .int .i64 p1 := r27
            obtain ⟨v18, e18, r18⟩ := hn 18 (Rg.mem_of (by kernel_rfl))
            obtain rfl : v18 = .bool true := r18
            refine .inl ⟨((Rg.wanted_some (t := 18) rfl (by kernel_rfl) e18).trans rfl), fun K hK => ?_⟩
            have hd2 : decide (p1 ≤ qb + 1) = false := by simp; omega
            go_simp
            exact hK _ _ (Below.refl _ _) (fun t ht => by injection ht with ht; subst ht; exact rfl)
          refine Rg.good_cons ?_ ?_
          · intro a w' cx hn
            obtain ⟨v18, e18, r18⟩ := hn 18 (Rg.mem_of (by kernel_rfl))
            obtain rfl : v18 = .bool true := r18
            obtain ⟨v28, e28, r28⟩ := hn 28 (Rg.mem_of (by kernel_rfl))
            obtain rfl : v28 = .bool false := r28
            obtain ⟨v15, e15, r15⟩ := hn 15 (Rg.mem_of (by kernel_rfl))
            obtain rfl : v15 = .bool false := r15
            refine .inl ⟨((Rg.wanted_some (t := 15) rfl (by kernel_rfl) e15).trans rfl), fun K hK => ?_⟩
            go_simp
            exact hK _ _ (Below.refl _ _) (fun t ht => by injection ht with ht; subst ht; exact rfl)
          refine Rg.good_cons ?_ ?_
          · intro a w' cx hn
            obtain ⟨v15, e15, r15⟩ := hn 15 (Rg.mem_of (by kernel_rfl))
            obtain rfl : v15 = .bool false := r15
            obtain ⟨v29, e29, r29⟩ := hn 29 (Rg.mem_of (by kernel_rfl))
            obtain rfl : v29 = .bool false := r29
            refine .inl ⟨(Rg.wanted_none rfl), fun K hK => ?_⟩
            go_simp
            exact hK _ _ (Below.refl _ _) (fun t ht => by injection ht with ht; subst ht; exact rfl)
          exact Rg.good_nil
        case done =>
          intro u w6 hb6 hr
          have q30 : u 30 = .bool false := hr 30 (by simp)
          simp only [Rg.fillL_cons, Rg.fillL_nil, if_true, if_false, Bool.false_eq_true, q30]
          have B6 := Lib.hid (B4.out.trans (hb6.mono B4.out.size))
          clear hr hb6
          go_wp2_with fail
          go_roundw
          case rel => exact ⟨j + 1 + 1, by omega, by go_num, B6⟩
          case measure => simp [intOf]; omega
    · obtain rfl : k = n := by omega
      have hki : ¬ ((k : Int) < (k : Int)) := by omega
      go_wp2_with fail
      go_ret
      exact ⟨rfl, HB.out⟩
end Go.Proofs.YtbnbammgjmeicaaDoor.Tm
