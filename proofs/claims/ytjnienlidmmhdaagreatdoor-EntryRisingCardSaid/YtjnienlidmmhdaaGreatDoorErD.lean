/- the document's Rising. -/
import Derived.Test.YtjnienlidmmhdaaGreatDoorErC
namespace Go.Proofs.YtjnienlidmmhdaaGreatDoor.En
open Go.RowKit Go.Sort
set_option linter.unusedVariables false

theorem ris_no {l : List SV} {k : Nat} (hk : k < l.length) (h : ¬ OkAt l k) : risB l = false := risB_false.2 fun hr => h ((ris_iff l).1 hr k hk)
set_option maxHeartbeats 4000000 in
set_option maxRecDepth 100000 in
theorem refrising_any (D : Option Addr) (n cp : Nat) (l : List SV) (w : World) (hn : n = l.length) (hn1 : (n : Int) ≤ 70368744177664) (h : Sm w D l) :
    Calls Tryz.prog 45 #[.slice D n cp] w fun e w' => e = .returned (.bool (risB l)) ∧ Below w.heap.size w w' := by
  have HN := Lib.hid hn
  have HH := Lib.hid h
  clear hn h
  go_enter Tryz.func45, Tryz.ntmps45
  go_wp2_with fail
  go_loopw [3] (fun i wr => ∃ k : Nat, i = .int .i64 (k : Int) ∧ Hid (k ≤ n ∧ ∀ j, j < k → OkAt l j) ∧ Hid (Below w.heap.size w wr)) (fun i _ => n - (intOf i).toNat)
  case atStart => exact ⟨0, rfl, Lib.hid ⟨Nat.zero_le _, fun j hj => absurd hj (by omega)⟩, Lib.hid (Below.refl _ _)⟩
  case round =>
    obtain ⟨k, rfl, HF, HB⟩ := hrel
    by_cases hlt : k < n
    · have hki : (k : Int) < (n : Int) := by omega
      obtain ⟨s, hs⟩ : ∃ s, l[k]? = some s := ⟨_, List.getElem?_eq_getElem (by have := HN.out; omega)⟩
      obtain ⟨b, o, rfl, hat⟩ := HH.out.at_ hs
      obtain ⟨A, B, c, d, ⟨a0, a1, a2, a3, a4, a5, a6, a7, a8⟩, hsb⟩ := (hat.below HB.out).cells
      have HS := Lib.hid hs
      have HLT := Lib.hid hlt
      have HSB := Lib.hid hsb
      clear hat hs hsb
      obtain ⟨it, hit⟩ : ∃ it, inT s.t = it := ⟨_, rfl⟩
      have HI := Lib.hid hit
      clear hit
      obtain ⟨z, hz⟩ : ∃ z, checkF s.h.k s.h.s s.h.z s.h.zc s.h.ct s.h.P s.h.Q = z := ⟨_, rfl⟩
      have HZ := Lib.hid hz
      clear hz
      have HBAD := Lib.hid (show it = false ∨ z ≠ 0 → risB l = false from fun hh => ris_no (l := l) (k := k) (by have := HLT.out; have := HN.out; omega) (fun ho => by
        have h1 := (ho s HS.out).1
        unfold rightS at h1
        rw [Bool.and_eq_true, HI.out] at h1
        rcases hh with hh | hh
        · rw [hh] at h1; exact absurd h1.1 (by decide)
        · exact hh (HZ.out.symm.trans (of_decide_eq_true h1.2))))
      have HGOOD := Lib.hid (show it = true → z = 0 → rightS s = true from fun h1 h2 => by unfold rightS; rw [HI.out, h1, decide_eq_true (show chk s.h = 0 from HZ.out.trans h2)]; rfl)
      have hltk := block_lt_of_cell a0
      cases it with
      | false =>
        have HY := Lib.hid (HBAD.out (.inl rfl))
        go_wp2_with fail
        refine Rg.wp_region_inv (R := fun sl v w => match sl with
            | 10 => v = .slice (some ⟨b, o, none⟩) n cp
            | 11 => v = .int .i64 (k : Int)
            | 12 => v = .pointer (some ⟨b, o + k * 9, none⟩)
            | 13 => v = .pointer (some ⟨b, o + k * 9, none⟩)
            | 14 => v = .int .i64 s.t
            | 15 => v = .bool false
            | 16 => v = .bool true
            | 17 => v = .bool true
            | 18 => v = undef
            | 19 => v = undef
            | 20 => v = undef
            | 21 => v = undef
            | 22 => v = undef
            | 23 => v = undef
            | 24 => v = undef
            | 25 => v = .bool true
            | 26 => v = .bool true
            | 27 => v = undef
            | 28 => v = undef
            | 29 => v = undef
            | 30 => v = undef
            | 31 => v = undef
            | 32 => v = undef
            | 33 => v = undef
            | 34 => v = undef
            | 35 => v = undef
            | 36 => v = undef
            | 37 => v = undef
            | 38 => v = undef
            | 39 => v = undef
            | 40 => v = undef
            | 41 => v = undef
            | 42 => v = undef
            | 43 => v = .bool true
            | _ => True) [10, 11, 12, 13, 14, 15, 16, 17, 18, 19, 20, 21, 22, 23, 24, 25, 26, 27, 28, 29, 30, 31, 32, 33, 34, 35, 36, 37, 38, 39, 40, 41, 42, 43] 44 [false, false, false, false, false, false, false, false, false, false, true, true, true, true, true, true, true, true, true, true, true, true, true, true, true, true, true, true, true, true, true, true, true, true, true, true, true, true, true, true, true, true, true, true] (by kernel_rfl) rfl (by kernel_rfl) (by kernel_rfl) (by kernel_rfl) (by kernel_rfl) (by kernel_rfl) ?mono ?good ?done
        case mono =>
          refine List.forall_mem_cons.2 ⟨fun _ _ _ _ _ h => h, ?_⟩
          refine List.forall_mem_cons.2 ⟨fun _ _ _ _ _ h => h, ?_⟩
          refine List.forall_mem_cons.2 ⟨fun _ _ _ _ _ h => h, ?_⟩
          refine List.forall_mem_cons.2 ⟨fun _ _ _ _ _ h => h, ?_⟩
          refine List.forall_mem_cons.2 ⟨fun _ _ _ _ _ h => h, ?_⟩
          refine List.forall_mem_cons.2 ⟨fun _ _ _ _ _ h => h, ?_⟩
          refine List.forall_mem_cons.2 ⟨fun _ _ _ _ _ h => h, ?_⟩
          refine List.forall_mem_cons.2 ⟨fun _ _ _ _ _ h => h, ?_⟩
          refine List.forall_mem_cons.2 ⟨fun _ _ _ _ _ h => h, ?_⟩
          refine List.forall_mem_cons.2 ⟨fun _ _ _ _ _ h => h, ?_⟩
          refine List.forall_mem_cons.2 ⟨fun _ _ _ _ _ h => h, ?_⟩
          refine List.forall_mem_cons.2 ⟨fun _ _ _ _ _ h => h, ?_⟩
          refine List.forall_mem_cons.2 ⟨fun _ _ _ _ _ h => h, ?_⟩
          refine List.forall_mem_cons.2 ⟨fun _ _ _ _ _ h => h, ?_⟩
          refine List.forall_mem_cons.2 ⟨fun _ _ _ _ _ h => h, ?_⟩
          refine List.forall_mem_cons.2 ⟨fun _ _ _ _ _ h => h, ?_⟩
          refine List.forall_mem_cons.2 ⟨fun _ _ _ _ _ h => h, ?_⟩
          refine List.forall_mem_cons.2 ⟨fun _ _ _ _ _ h => h, ?_⟩
          refine List.forall_mem_cons.2 ⟨fun _ _ _ _ _ h => h, ?_⟩
          refine List.forall_mem_cons.2 ⟨fun _ _ _ _ _ h => h, ?_⟩
          refine List.forall_mem_cons.2 ⟨fun _ _ _ _ _ h => h, ?_⟩
          refine List.forall_mem_cons.2 ⟨fun _ _ _ _ _ h => h, ?_⟩
          refine List.forall_mem_cons.2 ⟨fun _ _ _ _ _ h => h, ?_⟩
          refine List.forall_mem_cons.2 ⟨fun _ _ _ _ _ h => h, ?_⟩
          refine List.forall_mem_cons.2 ⟨fun _ _ _ _ _ h => h, ?_⟩
          refine List.forall_mem_cons.2 ⟨fun _ _ _ _ _ h => h, ?_⟩
          refine List.forall_mem_cons.2 ⟨fun _ _ _ _ _ h => h, ?_⟩
          refine List.forall_mem_cons.2 ⟨fun _ _ _ _ _ h => h, ?_⟩
          refine List.forall_mem_cons.2 ⟨fun _ _ _ _ _ h => h, ?_⟩
          refine List.forall_mem_cons.2 ⟨fun _ _ _ _ _ h => h, ?_⟩
          refine List.forall_mem_cons.2 ⟨fun _ _ _ _ _ h => h, ?_⟩
          refine List.forall_mem_cons.2 ⟨fun _ _ _ _ _ h => h, ?_⟩
          refine List.forall_mem_cons.2 ⟨fun _ _ _ _ _ h => h, ?_⟩
          refine List.forall_mem_cons.2 ⟨fun _ _ _ _ _ h => h, ?_⟩
          exact fun _ h => absurd h (by simp)
        case good =>
          refine Rg.good_cons ?_ ?_
          · intro ac w' cx hn
            have e0 := cx.at_ 0 (by kernel_rfl) rfl
            refine .inl ⟨(Rg.wanted_none rfl), fun K hK => ?_⟩
            go_simp
            exact hK _ _ (Below.refl _ _) (fun t ht => by injection ht with ht; subst ht; exact rfl)
          refine Rg.good_cons ?_ ?_
          · intro ac w' cx hn
            have e3 := cx.at_ 3 (by kernel_rfl) rfl
            refine .inl ⟨(Rg.wanted_none rfl), fun K hK => ?_⟩
            go_simp
            exact hK _ _ (Below.refl _ _) (fun t ht => by injection ht with ht; subst ht; exact rfl)
          refine Rg.good_cons ?_ ?_
          · intro ac w' cx hn
            obtain ⟨v10, e10, r10⟩ := hn 10 (Rg.mem_of (by kernel_rfl))
            obtain rfl : v10 = .slice (some ⟨b, o, none⟩) n cp := r10
            obtain ⟨v11, e11, r11⟩ := hn 11 (Rg.mem_of (by kernel_rfl))
            obtain rfl : v11 = .int .i64 (k : Int) := r11
            refine .inl ⟨(Rg.wanted_none rfl), fun K hK => ?_⟩
            have hkn : k < n := HLT.out
            go_simp
            exact hK _ _ (Below.refl _ _) (fun t ht => by injection ht with ht; subst ht; exact rfl)
          refine Rg.good_cons ?_ ?_
          · intro ac w' cx hn
            obtain ⟨v12, e12, r12⟩ := hn 12 (Rg.mem_of (by kernel_rfl))
            obtain rfl : v12 = .pointer (some ⟨b, o + k * 9, none⟩) := r12
            refine .inl ⟨(Rg.wanted_none rfl), fun K hK => ?_⟩
            go_simp
            exact hK _ _ (Below.refl _ _) (fun t ht => by injection ht with ht; subst ht; exact rfl)
          refine Rg.good_cons ?_ ?_
          · intro ac w' cx hn
            obtain ⟨v13, e13, r13⟩ := hn 13 (Rg.mem_of (by kernel_rfl))
            obtain rfl : v13 = .pointer (some ⟨b, o + k * 9, none⟩) := r13
            refine .inl ⟨(Rg.wanted_none rfl), fun K hK => ?_⟩
            have a0' := (cx.bel.cell (block_lt_of_cell a0)).trans a0
            go_simp
            exact hK _ _ (Below.refl _ _) (fun t ht => by injection ht with ht; subst ht; exact rfl)
          refine Rg.good_cons ?_ ?_
          · intro ac w' cx hn
            obtain ⟨v14, e14, r14⟩ := hn 14 (Rg.mem_of (by kernel_rfl))
            obtain rfl : v14 = .int .i64 s.t := r14
            refine .inl ⟨(Rg.wanted_none rfl), fun K hK => ?_⟩
            go_simp
            refine (reftime_any s.t w').mono ?_
            rintro y w5 ⟨rfl, rfl⟩
            rw [HI.out]
            exact hK _ _ (Below.refl _ _) (fun t ht => by injection ht with ht; subst ht; exact rfl)
          refine Rg.good_cons ?_ ?_
          · intro ac w' cx hn
            obtain ⟨v15, e15, r15⟩ := hn 15 (Rg.mem_of (by kernel_rfl))
            obtain rfl : v15 = .bool false := r15
            refine .inl ⟨(Rg.wanted_none rfl), fun K hK => ?_⟩
            go_simp
            exact hK _ _ (Below.refl _ _) (fun t ht => by injection ht with ht; subst ht; exact rfl)
          refine Rg.good_cons ?_ ?_
          · intro ac w' cx hn
            obtain ⟨v16, e16, r16⟩ := hn 16 (Rg.mem_of (by kernel_rfl))
            obtain rfl : v16 = .bool true := r16
            refine .inl ⟨(Rg.wanted_none rfl), fun K hK => ?_⟩
            go_simp
            exact hK _ _ (Below.refl _ _) (fun t ht => by injection ht with ht; subst ht; exact rfl)
          refine Rg.good_cons ?_ ?_
          · intro ac w' cx hn
            have e0 := cx.at_ 0 (by kernel_rfl) rfl
            obtain ⟨v17, e17, r17⟩ := hn 17 (Rg.mem_of (by kernel_rfl))
            obtain rfl : v17 = .bool true := r17
            exact .inr ⟨((Rg.wanted_some (t := 17) rfl (by kernel_rfl) e17).trans rfl), fun t ht => by injection ht with ht; subst ht; exact rfl⟩
          refine Rg.good_cons ?_ ?_
          · intro ac w' cx hn
            have e3 := cx.at_ 3 (by kernel_rfl) rfl
            obtain ⟨v17, e17, r17⟩ := hn 17 (Rg.mem_of (by kernel_rfl))
            obtain rfl : v17 = .bool true := r17
            exact .inr ⟨((Rg.wanted_some (t := 17) rfl (by kernel_rfl) e17).trans rfl), fun t ht => by injection ht with ht; subst ht; exact rfl⟩
          refine Rg.good_cons ?_ ?_
          · intro ac w' cx hn
            obtain ⟨v18, e18, r18⟩ := hn 18 (Rg.mem_of (by kernel_rfl))
            obtain rfl : v18 = undef := r18
            obtain ⟨v19, e19, r19⟩ := hn 19 (Rg.mem_of (by kernel_rfl))
            obtain rfl : v19 = undef := r19
            obtain ⟨v17, e17, r17⟩ := hn 17 (Rg.mem_of (by kernel_rfl))
            obtain rfl : v17 = .bool true := r17
            exact .inr ⟨((Rg.wanted_some (t := 17) rfl (by kernel_rfl) e17).trans rfl), fun t ht => by injection ht with ht; subst ht; exact rfl⟩
          refine Rg.good_cons ?_ ?_
          · intro ac w' cx hn
            obtain ⟨v20, e20, r20⟩ := hn 20 (Rg.mem_of (by kernel_rfl))
            obtain rfl : v20 = undef := r20
            obtain ⟨v17, e17, r17⟩ := hn 17 (Rg.mem_of (by kernel_rfl))
            obtain rfl : v17 = .bool true := r17
            exact .inr ⟨((Rg.wanted_some (t := 17) rfl (by kernel_rfl) e17).trans rfl), fun t ht => by injection ht with ht; subst ht; exact rfl⟩
          refine Rg.good_cons ?_ ?_
          · intro ac w' cx hn
            obtain ⟨v21, e21, r21⟩ := hn 21 (Rg.mem_of (by kernel_rfl))
            obtain rfl : v21 = undef := r21
            obtain ⟨v17, e17, r17⟩ := hn 17 (Rg.mem_of (by kernel_rfl))
            obtain rfl : v17 = .bool true := r17
            exact .inr ⟨((Rg.wanted_some (t := 17) rfl (by kernel_rfl) e17).trans rfl), fun t ht => by injection ht with ht; subst ht; exact rfl⟩
          refine Rg.good_cons ?_ ?_
          · intro ac w' cx hn
            obtain ⟨v22, e22, r22⟩ := hn 22 (Rg.mem_of (by kernel_rfl))
            obtain rfl : v22 = undef := r22
            obtain ⟨v17, e17, r17⟩ := hn 17 (Rg.mem_of (by kernel_rfl))
            obtain rfl : v17 = .bool true := r17
            exact .inr ⟨((Rg.wanted_some (t := 17) rfl (by kernel_rfl) e17).trans rfl), fun t ht => by injection ht with ht; subst ht; exact rfl⟩
          refine Rg.good_cons ?_ ?_
          · intro ac w' cx hn
            obtain ⟨v23, e23, r23⟩ := hn 23 (Rg.mem_of (by kernel_rfl))
            obtain rfl : v23 = undef := r23
            obtain ⟨v17, e17, r17⟩ := hn 17 (Rg.mem_of (by kernel_rfl))
            obtain rfl : v17 = .bool true := r17
            exact .inr ⟨((Rg.wanted_some (t := 17) rfl (by kernel_rfl) e17).trans rfl), fun t ht => by injection ht with ht; subst ht; exact rfl⟩
          refine Rg.good_cons ?_ ?_
          · intro ac w' cx hn
            obtain ⟨v17, e17, r17⟩ := hn 17 (Rg.mem_of (by kernel_rfl))
            obtain rfl : v17 = .bool true := r17
            obtain ⟨v24, e24, r24⟩ := hn 24 (Rg.mem_of (by kernel_rfl))
            obtain rfl : v24 = undef := r24
            refine .inl ⟨(Rg.wanted_none rfl), fun K hK => ?_⟩
            go_simp
            exact hK _ _ (Below.refl _ _) (fun t ht => by injection ht with ht; subst ht; exact rfl)
          refine Rg.good_cons ?_ ?_
          · intro ac w' cx hn
            obtain ⟨v25, e25, r25⟩ := hn 25 (Rg.mem_of (by kernel_rfl))
            obtain rfl : v25 = .bool true := r25
            refine .inl ⟨(Rg.wanted_none rfl), fun K hK => ?_⟩
            go_simp
            exact hK _ _ (Below.refl _ _) (fun t ht => by injection ht with ht; subst ht; exact rfl)
          refine Rg.good_cons ?_ ?_
          · intro ac w' cx hn
            have e3 := cx.at_ 3 (by kernel_rfl) rfl
            obtain ⟨v26, e26, r26⟩ := hn 26 (Rg.mem_of (by kernel_rfl))
            obtain rfl : v26 = .bool true := r26
            exact .inr ⟨((Rg.wanted_some (t := 26) rfl (by kernel_rfl) e26).trans rfl), fun t ht => by injection ht with ht; subst ht; exact rfl⟩
          refine Rg.good_cons ?_ ?_
          · intro ac w' cx hn
            obtain ⟨v27, e27, r27⟩ := hn 27 (Rg.mem_of (by kernel_rfl))
            obtain rfl : v27 = undef := r27
            obtain ⟨v26, e26, r26⟩ := hn 26 (Rg.mem_of (by kernel_rfl))
            obtain rfl : v26 = .bool true := r26
            exact .inr ⟨((Rg.wanted_some (t := 26) rfl (by kernel_rfl) e26).trans rfl), fun t ht => by injection ht with ht; subst ht; exact rfl⟩
          refine Rg.good_cons ?_ ?_
          · intro ac w' cx hn
            obtain ⟨v28, e28, r28⟩ := hn 28 (Rg.mem_of (by kernel_rfl))
            obtain rfl : v28 = undef := r28
            obtain ⟨v26, e26, r26⟩ := hn 26 (Rg.mem_of (by kernel_rfl))
            obtain rfl : v26 = .bool true := r26
            exact .inr ⟨((Rg.wanted_some (t := 26) rfl (by kernel_rfl) e26).trans rfl), fun t ht => by injection ht with ht; subst ht; exact rfl⟩
          refine Rg.good_cons ?_ ?_
          · intro ac w' cx hn
            have e0 := cx.at_ 0 (by kernel_rfl) rfl
            obtain ⟨v29, e29, r29⟩ := hn 29 (Rg.mem_of (by kernel_rfl))
            obtain rfl : v29 = undef := r29
            exact .inr ⟨(Rg.wanted_undef (t := 29) rfl (by kernel_rfl) e29), fun t ht => by injection ht with ht; subst ht; exact rfl⟩
          refine Rg.good_cons ?_ ?_
          · intro ac w' cx hn
            have e3 := cx.at_ 3 (by kernel_rfl) rfl
            obtain ⟨v29, e29, r29⟩ := hn 29 (Rg.mem_of (by kernel_rfl))
            obtain rfl : v29 = undef := r29
            exact .inr ⟨(Rg.wanted_undef (t := 29) rfl (by kernel_rfl) e29), fun t ht => by injection ht with ht; subst ht; exact rfl⟩
          refine Rg.good_cons ?_ ?_
          · intro ac w' cx hn
            obtain ⟨v30, e30, r30⟩ := hn 30 (Rg.mem_of (by kernel_rfl))
            obtain rfl : v30 = undef := r30
            obtain ⟨v31, e31, r31⟩ := hn 31 (Rg.mem_of (by kernel_rfl))
            obtain rfl : v31 = undef := r31
            obtain ⟨v29, e29, r29⟩ := hn 29 (Rg.mem_of (by kernel_rfl))
            obtain rfl : v29 = undef := r29
            exact .inr ⟨(Rg.wanted_undef (t := 29) rfl (by kernel_rfl) e29), fun t ht => by injection ht with ht; subst ht; exact rfl⟩
          refine Rg.good_cons ?_ ?_
          · intro ac w' cx hn
            obtain ⟨v32, e32, r32⟩ := hn 32 (Rg.mem_of (by kernel_rfl))
            obtain rfl : v32 = undef := r32
            obtain ⟨v29, e29, r29⟩ := hn 29 (Rg.mem_of (by kernel_rfl))
            obtain rfl : v29 = undef := r29
            exact .inr ⟨(Rg.wanted_undef (t := 29) rfl (by kernel_rfl) e29), fun t ht => by injection ht with ht; subst ht; exact rfl⟩
          refine Rg.good_cons ?_ ?_
          · intro ac w' cx hn
            obtain ⟨v33, e33, r33⟩ := hn 33 (Rg.mem_of (by kernel_rfl))
            obtain rfl : v33 = undef := r33
            obtain ⟨v29, e29, r29⟩ := hn 29 (Rg.mem_of (by kernel_rfl))
            obtain rfl : v29 = undef := r29
            exact .inr ⟨(Rg.wanted_undef (t := 29) rfl (by kernel_rfl) e29), fun t ht => by injection ht with ht; subst ht; exact rfl⟩
          refine Rg.good_cons ?_ ?_
          · intro ac w' cx hn
            have e0 := cx.at_ 0 (by kernel_rfl) rfl
            obtain ⟨v29, e29, r29⟩ := hn 29 (Rg.mem_of (by kernel_rfl))
            obtain rfl : v29 = undef := r29
            exact .inr ⟨(Rg.wanted_undef (t := 29) rfl (by kernel_rfl) e29), fun t ht => by injection ht with ht; subst ht; exact rfl⟩
          refine Rg.good_cons ?_ ?_
          · intro ac w' cx hn
            have e3 := cx.at_ 3 (by kernel_rfl) rfl
            obtain ⟨v29, e29, r29⟩ := hn 29 (Rg.mem_of (by kernel_rfl))
            obtain rfl : v29 = undef := r29
            exact .inr ⟨(Rg.wanted_undef (t := 29) rfl (by kernel_rfl) e29), fun t ht => by injection ht with ht; subst ht; exact rfl⟩
          refine Rg.good_cons ?_ ?_
          · intro ac w' cx hn
            obtain ⟨v36, e36, r36⟩ := hn 36 (Rg.mem_of (by kernel_rfl))
            obtain rfl : v36 = undef := r36
            obtain ⟨v29, e29, r29⟩ := hn 29 (Rg.mem_of (by kernel_rfl))
            obtain rfl : v29 = undef := r29
            exact .inr ⟨(Rg.wanted_undef (t := 29) rfl (by kernel_rfl) e29), fun t ht => by injection ht with ht; subst ht; exact rfl⟩
          refine Rg.good_cons ?_ ?_
          · intro ac w' cx hn
            obtain ⟨v35, e35, r35⟩ := hn 35 (Rg.mem_of (by kernel_rfl))
            obtain rfl : v35 = undef := r35
            obtain ⟨v37, e37, r37⟩ := hn 37 (Rg.mem_of (by kernel_rfl))
            obtain rfl : v37 = undef := r37
            obtain ⟨v29, e29, r29⟩ := hn 29 (Rg.mem_of (by kernel_rfl))
            obtain rfl : v29 = undef := r29
            exact .inr ⟨(Rg.wanted_undef (t := 29) rfl (by kernel_rfl) e29), fun t ht => by injection ht with ht; subst ht; exact rfl⟩
          refine Rg.good_cons ?_ ?_
          · intro ac w' cx hn
            obtain ⟨v38, e38, r38⟩ := hn 38 (Rg.mem_of (by kernel_rfl))
            obtain rfl : v38 = undef := r38
            obtain ⟨v29, e29, r29⟩ := hn 29 (Rg.mem_of (by kernel_rfl))
            obtain rfl : v29 = undef := r29
            exact .inr ⟨(Rg.wanted_undef (t := 29) rfl (by kernel_rfl) e29), fun t ht => by injection ht with ht; subst ht; exact rfl⟩
          refine Rg.good_cons ?_ ?_
          · intro ac w' cx hn
            obtain ⟨v39, e39, r39⟩ := hn 39 (Rg.mem_of (by kernel_rfl))
            obtain rfl : v39 = undef := r39
            obtain ⟨v29, e29, r29⟩ := hn 29 (Rg.mem_of (by kernel_rfl))
            obtain rfl : v29 = undef := r29
            exact .inr ⟨(Rg.wanted_undef (t := 29) rfl (by kernel_rfl) e29), fun t ht => by injection ht with ht; subst ht; exact rfl⟩
          refine Rg.good_cons ?_ ?_
          · intro ac w' cx hn
            obtain ⟨v34, e34, r34⟩ := hn 34 (Rg.mem_of (by kernel_rfl))
            obtain rfl : v34 = undef := r34
            obtain ⟨v40, e40, r40⟩ := hn 40 (Rg.mem_of (by kernel_rfl))
            obtain rfl : v40 = undef := r40
            obtain ⟨v29, e29, r29⟩ := hn 29 (Rg.mem_of (by kernel_rfl))
            obtain rfl : v29 = undef := r29
            exact .inr ⟨(Rg.wanted_undef (t := 29) rfl (by kernel_rfl) e29), fun t ht => by injection ht with ht; subst ht; exact rfl⟩
          refine Rg.good_cons ?_ ?_
          · intro ac w' cx hn
            obtain ⟨v29, e29, r29⟩ := hn 29 (Rg.mem_of (by kernel_rfl))
            obtain rfl : v29 = undef := r29
            obtain ⟨v41, e41, r41⟩ := hn 41 (Rg.mem_of (by kernel_rfl))
            obtain rfl : v41 = undef := r41
            obtain ⟨v26, e26, r26⟩ := hn 26 (Rg.mem_of (by kernel_rfl))
            obtain rfl : v26 = .bool true := r26
            exact .inr ⟨((Rg.wanted_some (t := 26) rfl (by kernel_rfl) e26).trans rfl), fun t ht => by injection ht with ht; subst ht; exact rfl⟩
          refine Rg.good_cons ?_ ?_
          · intro ac w' cx hn
            obtain ⟨v26, e26, r26⟩ := hn 26 (Rg.mem_of (by kernel_rfl))
            obtain rfl : v26 = .bool true := r26
            obtain ⟨v42, e42, r42⟩ := hn 42 (Rg.mem_of (by kernel_rfl))
            obtain rfl : v42 = undef := r42
            refine .inl ⟨(Rg.wanted_none rfl), fun K hK => ?_⟩
            go_simp
            exact hK _ _ (Below.refl _ _) (fun t ht => by injection ht with ht; subst ht; exact rfl)
          exact Rg.good_nil
        case done =>
          intro u w3 hb3 hr
          have e43 : u 43 = .bool true := hr 43 (by simp)
          simp only [Rg.fillL_cons, Rg.fillL_nil, if_true, if_false, Bool.false_eq_true, e43]
          have HB3 := Lib.hid (HB.out.trans (hb3.mono HB.out.size))
          clear hr hb3 e43 a0 a1 a2 a3 a4 a5 a6 a7 a8
          skip
          go_wp2_with fail
          go_ret
          exact ⟨ret_boolE HY.out.symm, HB3.out⟩
      | true =>
        by_cases hz0 : z ≠ 0
        · have HY := Lib.hid (HBAD.out (.inr hz0))
          have HZN := Lib.hid hz0
          go_wp2_with fail
          refine Rg.wp_region_inv (R := fun sl v w => match sl with
              | 10 => v = .slice (some ⟨b, o, none⟩) n cp
              | 11 => v = .int .i64 (k : Int)
              | 12 => v = .pointer (some ⟨b, o + k * 9, none⟩)
              | 13 => v = .pointer (some ⟨b, o + k * 9, none⟩)
              | 14 => v = .int .i64 s.t
              | 15 => v = .bool true
              | 16 => v = .bool false
              | 17 => v = .bool false
              | 18 => v = .slice (some ⟨b, o, none⟩) n cp
              | 19 => v = .int .i64 (k : Int)
              | 20 => v = .pointer (some ⟨b, o + k * 9, none⟩)
              | 21 => v = .pointer (some ⟨b, o + k * 9 + 1, none⟩)
              | 22 => v = .agg #[.int .i64 s.h.k, .int .i64 s.h.s, .int .i64 s.h.z, .int .u64 s.h.zc, .int .u64 s.h.ct, .int .i64 s.h.sm, .slice A s.h.P.length c, .slice B s.h.Q.length d]
              | 23 => v = .int .i64 z
              | 24 => v = .bool true
              | 25 => v = .bool true
              | 26 => v = .bool true
              | 27 => v = undef
              | 28 => v = undef
              | 29 => v = undef
              | 30 => v = undef
              | 31 => v = undef
              | 32 => v = undef
              | 33 => v = undef
              | 34 => v = undef
              | 35 => v = undef
              | 36 => v = undef
              | 37 => v = undef
              | 38 => v = undef
              | 39 => v = undef
              | 40 => v = undef
              | 41 => v = undef
              | 42 => v = undef
              | 43 => v = .bool true
              | _ => True) [10, 11, 12, 13, 14, 15, 16, 17, 18, 19, 20, 21, 22, 23, 24, 25, 26, 27, 28, 29, 30, 31, 32, 33, 34, 35, 36, 37, 38, 39, 40, 41, 42, 43] 44 [false, false, false, false, false, false, false, false, false, false, true, true, true, true, true, true, true, true, true, true, true, true, true, true, true, true, true, true, true, true, true, true, true, true, true, true, true, true, true, true, true, true, true, true] (by kernel_rfl) rfl (by kernel_rfl) (by kernel_rfl) (by kernel_rfl) (by kernel_rfl) (by kernel_rfl) ?mono ?good ?done
          case mono =>
            refine List.forall_mem_cons.2 ⟨fun _ _ _ _ _ h => h, ?_⟩
            refine List.forall_mem_cons.2 ⟨fun _ _ _ _ _ h => h, ?_⟩
            refine List.forall_mem_cons.2 ⟨fun _ _ _ _ _ h => h, ?_⟩
            refine List.forall_mem_cons.2 ⟨fun _ _ _ _ _ h => h, ?_⟩
            refine List.forall_mem_cons.2 ⟨fun _ _ _ _ _ h => h, ?_⟩
            refine List.forall_mem_cons.2 ⟨fun _ _ _ _ _ h => h, ?_⟩
            refine List.forall_mem_cons.2 ⟨fun _ _ _ _ _ h => h, ?_⟩
            refine List.forall_mem_cons.2 ⟨fun _ _ _ _ _ h => h, ?_⟩
            refine List.forall_mem_cons.2 ⟨fun _ _ _ _ _ h => h, ?_⟩
            refine List.forall_mem_cons.2 ⟨fun _ _ _ _ _ h => h, ?_⟩
            refine List.forall_mem_cons.2 ⟨fun _ _ _ _ _ h => h, ?_⟩
            refine List.forall_mem_cons.2 ⟨fun _ _ _ _ _ h => h, ?_⟩
            refine List.forall_mem_cons.2 ⟨fun _ _ _ _ _ h => h, ?_⟩
            refine List.forall_mem_cons.2 ⟨fun _ _ _ _ _ h => h, ?_⟩
            refine List.forall_mem_cons.2 ⟨fun _ _ _ _ _ h => h, ?_⟩
            refine List.forall_mem_cons.2 ⟨fun _ _ _ _ _ h => h, ?_⟩
            refine List.forall_mem_cons.2 ⟨fun _ _ _ _ _ h => h, ?_⟩
            refine List.forall_mem_cons.2 ⟨fun _ _ _ _ _ h => h, ?_⟩
            refine List.forall_mem_cons.2 ⟨fun _ _ _ _ _ h => h, ?_⟩
            refine List.forall_mem_cons.2 ⟨fun _ _ _ _ _ h => h, ?_⟩
            refine List.forall_mem_cons.2 ⟨fun _ _ _ _ _ h => h, ?_⟩
            refine List.forall_mem_cons.2 ⟨fun _ _ _ _ _ h => h, ?_⟩
            refine List.forall_mem_cons.2 ⟨fun _ _ _ _ _ h => h, ?_⟩
            refine List.forall_mem_cons.2 ⟨fun _ _ _ _ _ h => h, ?_⟩
            refine List.forall_mem_cons.2 ⟨fun _ _ _ _ _ h => h, ?_⟩
            refine List.forall_mem_cons.2 ⟨fun _ _ _ _ _ h => h, ?_⟩
            refine List.forall_mem_cons.2 ⟨fun _ _ _ _ _ h => h, ?_⟩
            refine List.forall_mem_cons.2 ⟨fun _ _ _ _ _ h => h, ?_⟩
            refine List.forall_mem_cons.2 ⟨fun _ _ _ _ _ h => h, ?_⟩
            refine List.forall_mem_cons.2 ⟨fun _ _ _ _ _ h => h, ?_⟩
            refine List.forall_mem_cons.2 ⟨fun _ _ _ _ _ h => h, ?_⟩
            refine List.forall_mem_cons.2 ⟨fun _ _ _ _ _ h => h, ?_⟩
            refine List.forall_mem_cons.2 ⟨fun _ _ _ _ _ h => h, ?_⟩
            refine List.forall_mem_cons.2 ⟨fun _ _ _ _ _ h => h, ?_⟩
            exact fun _ h => absurd h (by simp)
          case good =>
            refine Rg.good_cons ?_ ?_
            · intro ac w' cx hn
              have e0 := cx.at_ 0 (by kernel_rfl) rfl
              refine .inl ⟨(Rg.wanted_none rfl), fun K hK => ?_⟩
              go_simp
              exact hK _ _ (Below.refl _ _) (fun t ht => by injection ht with ht; subst ht; exact rfl)
            refine Rg.good_cons ?_ ?_
            · intro ac w' cx hn
              have e3 := cx.at_ 3 (by kernel_rfl) rfl
              refine .inl ⟨(Rg.wanted_none rfl), fun K hK => ?_⟩
              go_simp
              exact hK _ _ (Below.refl _ _) (fun t ht => by injection ht with ht; subst ht; exact rfl)
            refine Rg.good_cons ?_ ?_
            · intro ac w' cx hn
              obtain ⟨v10, e10, r10⟩ := hn 10 (Rg.mem_of (by kernel_rfl))
              obtain rfl : v10 = .slice (some ⟨b, o, none⟩) n cp := r10
              obtain ⟨v11, e11, r11⟩ := hn 11 (Rg.mem_of (by kernel_rfl))
              obtain rfl : v11 = .int .i64 (k : Int) := r11
              refine .inl ⟨(Rg.wanted_none rfl), fun K hK => ?_⟩
              have hkn : k < n := HLT.out
              go_simp
              exact hK _ _ (Below.refl _ _) (fun t ht => by injection ht with ht; subst ht; exact rfl)
            refine Rg.good_cons ?_ ?_
            · intro ac w' cx hn
              obtain ⟨v12, e12, r12⟩ := hn 12 (Rg.mem_of (by kernel_rfl))
              obtain rfl : v12 = .pointer (some ⟨b, o + k * 9, none⟩) := r12
              refine .inl ⟨(Rg.wanted_none rfl), fun K hK => ?_⟩
              go_simp
              exact hK _ _ (Below.refl _ _) (fun t ht => by injection ht with ht; subst ht; exact rfl)
            refine Rg.good_cons ?_ ?_
            · intro ac w' cx hn
              obtain ⟨v13, e13, r13⟩ := hn 13 (Rg.mem_of (by kernel_rfl))
              obtain rfl : v13 = .pointer (some ⟨b, o + k * 9, none⟩) := r13
              refine .inl ⟨(Rg.wanted_none rfl), fun K hK => ?_⟩
              have a0' := (cx.bel.cell (block_lt_of_cell a0)).trans a0
              go_simp
              exact hK _ _ (Below.refl _ _) (fun t ht => by injection ht with ht; subst ht; exact rfl)
            refine Rg.good_cons ?_ ?_
            · intro ac w' cx hn
              obtain ⟨v14, e14, r14⟩ := hn 14 (Rg.mem_of (by kernel_rfl))
              obtain rfl : v14 = .int .i64 s.t := r14
              refine .inl ⟨(Rg.wanted_none rfl), fun K hK => ?_⟩
              go_simp
              refine (reftime_any s.t w').mono ?_
              rintro y w5 ⟨rfl, rfl⟩
              rw [HI.out]
              exact hK _ _ (Below.refl _ _) (fun t ht => by injection ht with ht; subst ht; exact rfl)
            refine Rg.good_cons ?_ ?_
            · intro ac w' cx hn
              obtain ⟨v15, e15, r15⟩ := hn 15 (Rg.mem_of (by kernel_rfl))
              obtain rfl : v15 = .bool true := r15
              refine .inl ⟨(Rg.wanted_none rfl), fun K hK => ?_⟩
              go_simp
              exact hK _ _ (Below.refl _ _) (fun t ht => by injection ht with ht; subst ht; exact rfl)
            refine Rg.good_cons ?_ ?_
            · intro ac w' cx hn
              obtain ⟨v16, e16, r16⟩ := hn 16 (Rg.mem_of (by kernel_rfl))
              obtain rfl : v16 = .bool false := r16
              refine .inl ⟨(Rg.wanted_none rfl), fun K hK => ?_⟩
              go_simp
              exact hK _ _ (Below.refl _ _) (fun t ht => by injection ht with ht; subst ht; exact rfl)
            refine Rg.good_cons ?_ ?_
            · intro ac w' cx hn
              have e0 := cx.at_ 0 (by kernel_rfl) rfl
              obtain ⟨v17, e17, r17⟩ := hn 17 (Rg.mem_of (by kernel_rfl))
              obtain rfl : v17 = .bool false := r17
              refine .inl ⟨((Rg.wanted_some (t := 17) rfl (by kernel_rfl) e17).trans rfl), fun K hK => ?_⟩
              go_simp
              exact hK _ _ (Below.refl _ _) (fun t ht => by injection ht with ht; subst ht; exact rfl)
            refine Rg.good_cons ?_ ?_
            · intro ac w' cx hn
              have e3 := cx.at_ 3 (by kernel_rfl) rfl
              obtain ⟨v17, e17, r17⟩ := hn 17 (Rg.mem_of (by kernel_rfl))
              obtain rfl : v17 = .bool false := r17
              refine .inl ⟨((Rg.wanted_some (t := 17) rfl (by kernel_rfl) e17).trans rfl), fun K hK => ?_⟩
              go_simp
              exact hK _ _ (Below.refl _ _) (fun t ht => by injection ht with ht; subst ht; exact rfl)
            refine Rg.good_cons ?_ ?_
            · intro ac w' cx hn
              obtain ⟨v18, e18, r18⟩ := hn 18 (Rg.mem_of (by kernel_rfl))
              obtain rfl : v18 = .slice (some ⟨b, o, none⟩) n cp := r18
              obtain ⟨v19, e19, r19⟩ := hn 19 (Rg.mem_of (by kernel_rfl))
              obtain rfl : v19 = .int .i64 (k : Int) := r19
              obtain ⟨v17, e17, r17⟩ := hn 17 (Rg.mem_of (by kernel_rfl))
              obtain rfl : v17 = .bool false := r17
              refine .inl ⟨((Rg.wanted_some (t := 17) rfl (by kernel_rfl) e17).trans rfl), fun K hK => ?_⟩
              have hkn : k < n := HLT.out
              go_simp
              exact hK _ _ (Below.refl _ _) (fun t ht => by injection ht with ht; subst ht; exact rfl)
            refine Rg.good_cons ?_ ?_
            · intro ac w' cx hn
              obtain ⟨v20, e20, r20⟩ := hn 20 (Rg.mem_of (by kernel_rfl))
              obtain rfl : v20 = .pointer (some ⟨b, o + k * 9, none⟩) := r20
              obtain ⟨v17, e17, r17⟩ := hn 17 (Rg.mem_of (by kernel_rfl))
              obtain rfl : v17 = .bool false := r17
              refine .inl ⟨((Rg.wanted_some (t := 17) rfl (by kernel_rfl) e17).trans rfl), fun K hK => ?_⟩
              go_simp
              exact hK _ _ (Below.refl _ _) (fun t ht => by injection ht with ht; subst ht; exact rfl)
            refine Rg.good_cons ?_ ?_
            · intro ac w' cx hn
              obtain ⟨v21, e21, r21⟩ := hn 21 (Rg.mem_of (by kernel_rfl))
              obtain rfl : v21 = .pointer (some ⟨b, o + k * 9 + 1, none⟩) := r21
              obtain ⟨v17, e17, r17⟩ := hn 17 (Rg.mem_of (by kernel_rfl))
              obtain rfl : v17 = .bool false := r17
              refine .inl ⟨((Rg.wanted_some (t := 17) rfl (by kernel_rfl) e17).trans rfl), fun K hK => ?_⟩
              have a0' := (cx.bel.cell (block_lt_of_cell a0)).trans a0
              have a1' := (cx.bel.cell (block_lt_of_cell a1)).trans a1
              have a2' := (cx.bel.cell (block_lt_of_cell a2)).trans a2
              have a3' := (cx.bel.cell (block_lt_of_cell a3)).trans a3
              have a4' := (cx.bel.cell (block_lt_of_cell a4)).trans a4
              have a5' := (cx.bel.cell (block_lt_of_cell a5)).trans a5
              have a6' := (cx.bel.cell (block_lt_of_cell a6)).trans a6
              have a7' := (cx.bel.cell (block_lt_of_cell a7)).trans a7
              have a8' := (cx.bel.cell (block_lt_of_cell a8)).trans a8
              go_simp
              exact hK _ _ (Below.refl _ _) (fun t ht => by injection ht with ht; subst ht; exact rfl)
            refine Rg.good_cons ?_ ?_
            · intro ac w' cx hn
              obtain ⟨v22, e22, r22⟩ := hn 22 (Rg.mem_of (by kernel_rfl))
              obtain rfl : v22 = .agg #[.int .i64 s.h.k, .int .i64 s.h.s, .int .i64 s.h.z, .int .u64 s.h.zc, .int .u64 s.h.ct, .int .i64 s.h.sm, .slice A s.h.P.length c, .slice B s.h.Q.length d] := r22
              obtain ⟨v17, e17, r17⟩ := hn 17 (Rg.mem_of (by kernel_rfl))
              obtain rfl : v17 = .bool false := r17
              refine .inl ⟨((Rg.wanted_some (t := 17) rfl (by kernel_rfl) e17).trans rfl), fun K hK => ?_⟩
              go_simp
              refine (refcheckN s.h.k s.h.s s.h.z s.h.zc s.h.ct (.int .i64 s.h.sm) A B c d s.h.P s.h.Q w' HSB.out.z0 HSB.out.z1 (HSB.out.P.below cx.bel) (HSB.out.Q.below cx.bel) z HZ.out).mono ?_
              rintro y w5 ⟨rfl, hb5⟩
              exact hK _ _ hb5 (fun t ht => by injection ht with ht; subst ht; exact rfl)
            refine Rg.good_cons ?_ ?_
            · intro ac w' cx hn
              obtain ⟨v23, e23, r23⟩ := hn 23 (Rg.mem_of (by kernel_rfl))
              obtain rfl : v23 = .int .i64 z := r23
              obtain ⟨v17, e17, r17⟩ := hn 17 (Rg.mem_of (by kernel_rfl))
              obtain rfl : v17 = .bool false := r17
              refine .inl ⟨((Rg.wanted_some (t := 17) rfl (by kernel_rfl) e17).trans rfl), fun K hK => ?_⟩
              go_simp
              have hzz : (z != 0) = true := by simpa using HZN.out
              rw [hzz]
              exact hK _ _ (Below.refl _ _) (fun t ht => by injection ht with ht; subst ht; exact rfl)
            refine Rg.good_cons ?_ ?_
            · intro ac w' cx hn
              obtain ⟨v17, e17, r17⟩ := hn 17 (Rg.mem_of (by kernel_rfl))
              obtain rfl : v17 = .bool false := r17
              obtain ⟨v24, e24, r24⟩ := hn 24 (Rg.mem_of (by kernel_rfl))
              obtain rfl : v24 = .bool true := r24
              refine .inl ⟨(Rg.wanted_none rfl), fun K hK => ?_⟩
              go_simp
              exact hK _ _ (Below.refl _ _) (fun t ht => by injection ht with ht; subst ht; exact rfl)
            refine Rg.good_cons ?_ ?_
            · intro ac w' cx hn
              obtain ⟨v25, e25, r25⟩ := hn 25 (Rg.mem_of (by kernel_rfl))
              obtain rfl : v25 = .bool true := r25
              refine .inl ⟨(Rg.wanted_none rfl), fun K hK => ?_⟩
              go_simp
              exact hK _ _ (Below.refl _ _) (fun t ht => by injection ht with ht; subst ht; exact rfl)
            refine Rg.good_cons ?_ ?_
            · intro ac w' cx hn
              have e3 := cx.at_ 3 (by kernel_rfl) rfl
              obtain ⟨v26, e26, r26⟩ := hn 26 (Rg.mem_of (by kernel_rfl))
              obtain rfl : v26 = .bool true := r26
              exact .inr ⟨((Rg.wanted_some (t := 26) rfl (by kernel_rfl) e26).trans rfl), fun t ht => by injection ht with ht; subst ht; exact rfl⟩
            refine Rg.good_cons ?_ ?_
            · intro ac w' cx hn
              obtain ⟨v27, e27, r27⟩ := hn 27 (Rg.mem_of (by kernel_rfl))
              obtain rfl : v27 = undef := r27
              obtain ⟨v26, e26, r26⟩ := hn 26 (Rg.mem_of (by kernel_rfl))
              obtain rfl : v26 = .bool true := r26
              exact .inr ⟨((Rg.wanted_some (t := 26) rfl (by kernel_rfl) e26).trans rfl), fun t ht => by injection ht with ht; subst ht; exact rfl⟩
            refine Rg.good_cons ?_ ?_
            · intro ac w' cx hn
              obtain ⟨v28, e28, r28⟩ := hn 28 (Rg.mem_of (by kernel_rfl))
              obtain rfl : v28 = undef := r28
              obtain ⟨v26, e26, r26⟩ := hn 26 (Rg.mem_of (by kernel_rfl))
              obtain rfl : v26 = .bool true := r26
              exact .inr ⟨((Rg.wanted_some (t := 26) rfl (by kernel_rfl) e26).trans rfl), fun t ht => by injection ht with ht; subst ht; exact rfl⟩
            refine Rg.good_cons ?_ ?_
            · intro ac w' cx hn
              have e0 := cx.at_ 0 (by kernel_rfl) rfl
              obtain ⟨v29, e29, r29⟩ := hn 29 (Rg.mem_of (by kernel_rfl))
              obtain rfl : v29 = undef := r29
              exact .inr ⟨(Rg.wanted_undef (t := 29) rfl (by kernel_rfl) e29), fun t ht => by injection ht with ht; subst ht; exact rfl⟩
            refine Rg.good_cons ?_ ?_
            · intro ac w' cx hn
              have e3 := cx.at_ 3 (by kernel_rfl) rfl
              obtain ⟨v29, e29, r29⟩ := hn 29 (Rg.mem_of (by kernel_rfl))
              obtain rfl : v29 = undef := r29
              exact .inr ⟨(Rg.wanted_undef (t := 29) rfl (by kernel_rfl) e29), fun t ht => by injection ht with ht; subst ht; exact rfl⟩
            refine Rg.good_cons ?_ ?_
            · intro ac w' cx hn
              obtain ⟨v30, e30, r30⟩ := hn 30 (Rg.mem_of (by kernel_rfl))
              obtain rfl : v30 = undef := r30
              obtain ⟨v31, e31, r31⟩ := hn 31 (Rg.mem_of (by kernel_rfl))
              obtain rfl : v31 = undef := r31
              obtain ⟨v29, e29, r29⟩ := hn 29 (Rg.mem_of (by kernel_rfl))
              obtain rfl : v29 = undef := r29
              exact .inr ⟨(Rg.wanted_undef (t := 29) rfl (by kernel_rfl) e29), fun t ht => by injection ht with ht; subst ht; exact rfl⟩
            refine Rg.good_cons ?_ ?_
            · intro ac w' cx hn
              obtain ⟨v32, e32, r32⟩ := hn 32 (Rg.mem_of (by kernel_rfl))
              obtain rfl : v32 = undef := r32
              obtain ⟨v29, e29, r29⟩ := hn 29 (Rg.mem_of (by kernel_rfl))
              obtain rfl : v29 = undef := r29
              exact .inr ⟨(Rg.wanted_undef (t := 29) rfl (by kernel_rfl) e29), fun t ht => by injection ht with ht; subst ht; exact rfl⟩
            refine Rg.good_cons ?_ ?_
            · intro ac w' cx hn
              obtain ⟨v33, e33, r33⟩ := hn 33 (Rg.mem_of (by kernel_rfl))
              obtain rfl : v33 = undef := r33
              obtain ⟨v29, e29, r29⟩ := hn 29 (Rg.mem_of (by kernel_rfl))
              obtain rfl : v29 = undef := r29
              exact .inr ⟨(Rg.wanted_undef (t := 29) rfl (by kernel_rfl) e29), fun t ht => by injection ht with ht; subst ht; exact rfl⟩
            refine Rg.good_cons ?_ ?_
            · intro ac w' cx hn
              have e0 := cx.at_ 0 (by kernel_rfl) rfl
              obtain ⟨v29, e29, r29⟩ := hn 29 (Rg.mem_of (by kernel_rfl))
              obtain rfl : v29 = undef := r29
              exact .inr ⟨(Rg.wanted_undef (t := 29) rfl (by kernel_rfl) e29), fun t ht => by injection ht with ht; subst ht; exact rfl⟩
            refine Rg.good_cons ?_ ?_
            · intro ac w' cx hn
              have e3 := cx.at_ 3 (by kernel_rfl) rfl
              obtain ⟨v29, e29, r29⟩ := hn 29 (Rg.mem_of (by kernel_rfl))
              obtain rfl : v29 = undef := r29
              exact .inr ⟨(Rg.wanted_undef (t := 29) rfl (by kernel_rfl) e29), fun t ht => by injection ht with ht; subst ht; exact rfl⟩
            refine Rg.good_cons ?_ ?_
            · intro ac w' cx hn
              obtain ⟨v36, e36, r36⟩ := hn 36 (Rg.mem_of (by kernel_rfl))
              obtain rfl : v36 = undef := r36
              obtain ⟨v29, e29, r29⟩ := hn 29 (Rg.mem_of (by kernel_rfl))
              obtain rfl : v29 = undef := r29
              exact .inr ⟨(Rg.wanted_undef (t := 29) rfl (by kernel_rfl) e29), fun t ht => by injection ht with ht; subst ht; exact rfl⟩
            refine Rg.good_cons ?_ ?_
            · intro ac w' cx hn
              obtain ⟨v35, e35, r35⟩ := hn 35 (Rg.mem_of (by kernel_rfl))
              obtain rfl : v35 = undef := r35
              obtain ⟨v37, e37, r37⟩ := hn 37 (Rg.mem_of (by kernel_rfl))
              obtain rfl : v37 = undef := r37
              obtain ⟨v29, e29, r29⟩ := hn 29 (Rg.mem_of (by kernel_rfl))
              obtain rfl : v29 = undef := r29
              exact .inr ⟨(Rg.wanted_undef (t := 29) rfl (by kernel_rfl) e29), fun t ht => by injection ht with ht; subst ht; exact rfl⟩
            refine Rg.good_cons ?_ ?_
            · intro ac w' cx hn
              obtain ⟨v38, e38, r38⟩ := hn 38 (Rg.mem_of (by kernel_rfl))
              obtain rfl : v38 = undef := r38
              obtain ⟨v29, e29, r29⟩ := hn 29 (Rg.mem_of (by kernel_rfl))
              obtain rfl : v29 = undef := r29
              exact .inr ⟨(Rg.wanted_undef (t := 29) rfl (by kernel_rfl) e29), fun t ht => by injection ht with ht; subst ht; exact rfl⟩
            refine Rg.good_cons ?_ ?_
            · intro ac w' cx hn
              obtain ⟨v39, e39, r39⟩ := hn 39 (Rg.mem_of (by kernel_rfl))
              obtain rfl : v39 = undef := r39
              obtain ⟨v29, e29, r29⟩ := hn 29 (Rg.mem_of (by kernel_rfl))
              obtain rfl : v29 = undef := r29
              exact .inr ⟨(Rg.wanted_undef (t := 29) rfl (by kernel_rfl) e29), fun t ht => by injection ht with ht; subst ht; exact rfl⟩
            refine Rg.good_cons ?_ ?_
            · intro ac w' cx hn
              obtain ⟨v34, e34, r34⟩ := hn 34 (Rg.mem_of (by kernel_rfl))
              obtain rfl : v34 = undef := r34
              obtain ⟨v40, e40, r40⟩ := hn 40 (Rg.mem_of (by kernel_rfl))
              obtain rfl : v40 = undef := r40
              obtain ⟨v29, e29, r29⟩ := hn 29 (Rg.mem_of (by kernel_rfl))
              obtain rfl : v29 = undef := r29
              exact .inr ⟨(Rg.wanted_undef (t := 29) rfl (by kernel_rfl) e29), fun t ht => by injection ht with ht; subst ht; exact rfl⟩
            refine Rg.good_cons ?_ ?_
            · intro ac w' cx hn
              obtain ⟨v29, e29, r29⟩ := hn 29 (Rg.mem_of (by kernel_rfl))
              obtain rfl : v29 = undef := r29
              obtain ⟨v41, e41, r41⟩ := hn 41 (Rg.mem_of (by kernel_rfl))
              obtain rfl : v41 = undef := r41
              obtain ⟨v26, e26, r26⟩ := hn 26 (Rg.mem_of (by kernel_rfl))
              obtain rfl : v26 = .bool true := r26
              exact .inr ⟨((Rg.wanted_some (t := 26) rfl (by kernel_rfl) e26).trans rfl), fun t ht => by injection ht with ht; subst ht; exact rfl⟩
            refine Rg.good_cons ?_ ?_
            · intro ac w' cx hn
              obtain ⟨v26, e26, r26⟩ := hn 26 (Rg.mem_of (by kernel_rfl))
              obtain rfl : v26 = .bool true := r26
              obtain ⟨v42, e42, r42⟩ := hn 42 (Rg.mem_of (by kernel_rfl))
              obtain rfl : v42 = undef := r42
              refine .inl ⟨(Rg.wanted_none rfl), fun K hK => ?_⟩
              go_simp
              exact hK _ _ (Below.refl _ _) (fun t ht => by injection ht with ht; subst ht; exact rfl)
            exact Rg.good_nil
          case done =>
            intro u w3 hb3 hr
            have e43 : u 43 = .bool true := hr 43 (by simp)
            simp only [Rg.fillL_cons, Rg.fillL_nil, if_true, if_false, Bool.false_eq_true, e43]
            have HB3 := Lib.hid (HB.out.trans (hb3.mono HB.out.size))
            clear hr hb3 e43 a0 a1 a2 a3 a4 a5 a6 a7 a8
            skip
            go_wp2_with fail
            go_ret
            exact ⟨ret_boolE HY.out.symm, HB3.out⟩
        · replace hz0 : z = 0 := Classical.not_not.1 hz0
          subst hz0
          have HR := Lib.hid (HGOOD.out rfl rfl)
          rcases Nat.eq_zero_or_pos k with hk0 | hk0
          · have HK0 := Lib.hid hk0
            clear hk0
            go_wp2_with fail
            refine Rg.wp_region_inv (R := fun sl v w => match sl with
                | 10 => v = .slice (some ⟨b, o, none⟩) n cp
                | 11 => v = .int .i64 (k : Int)
                | 12 => v = .pointer (some ⟨b, o + k * 9, none⟩)
                | 13 => v = .pointer (some ⟨b, o + k * 9, none⟩)
                | 14 => v = .int .i64 s.t
                | 15 => v = .bool true
                | 16 => v = .bool false
                | 17 => v = .bool false
                | 18 => v = .slice (some ⟨b, o, none⟩) n cp
                | 19 => v = .int .i64 (k : Int)
                | 20 => v = .pointer (some ⟨b, o + k * 9, none⟩)
                | 21 => v = .pointer (some ⟨b, o + k * 9 + 1, none⟩)
                | 22 => v = .agg #[.int .i64 s.h.k, .int .i64 s.h.s, .int .i64 s.h.z, .int .u64 s.h.zc, .int .u64 s.h.ct, .int .i64 s.h.sm, .slice A s.h.P.length c, .slice B s.h.Q.length d]
                | 23 => v = .int .i64 0
                | 24 => v = .bool false
                | 25 => v = .bool false
                | 26 => v = .bool false
                | 27 => v = .int .i64 (k : Int)
                | 28 => v = .bool false
                | 29 => v = .bool false
                | 30 => v = undef
                | 31 => v = undef
                | 32 => v = undef
                | 33 => v = undef
                | 34 => v = undef
                | 35 => v = undef
                | 36 => v = undef
                | 37 => v = undef
                | 38 => v = undef
                | 39 => v = undef
                | 40 => v = undef
                | 41 => v = undef
                | 42 => v = .bool false
                | 43 => v = .bool false
                | _ => True) [10, 11, 12, 13, 14, 15, 16, 17, 18, 19, 20, 21, 22, 23, 24, 25, 26, 27, 28, 29, 30, 31, 32, 33, 34, 35, 36, 37, 38, 39, 40, 41, 42, 43] 44 [false, false, false, false, false, false, false, false, false, false, true, true, true, true, true, true, true, true, true, true, true, true, true, true, true, true, true, true, true, true, true, true, true, true, true, true, true, true, true, true, true, true, true, true] (by kernel_rfl) rfl (by kernel_rfl) (by kernel_rfl) (by kernel_rfl) (by kernel_rfl) (by kernel_rfl) ?mono ?good ?done
            case mono =>
              refine List.forall_mem_cons.2 ⟨fun _ _ _ _ _ h => h, ?_⟩
              refine List.forall_mem_cons.2 ⟨fun _ _ _ _ _ h => h, ?_⟩
              refine List.forall_mem_cons.2 ⟨fun _ _ _ _ _ h => h, ?_⟩
              refine List.forall_mem_cons.2 ⟨fun _ _ _ _ _ h => h, ?_⟩
              refine List.forall_mem_cons.2 ⟨fun _ _ _ _ _ h => h, ?_⟩
              refine List.forall_mem_cons.2 ⟨fun _ _ _ _ _ h => h, ?_⟩
              refine List.forall_mem_cons.2 ⟨fun _ _ _ _ _ h => h, ?_⟩
              refine List.forall_mem_cons.2 ⟨fun _ _ _ _ _ h => h, ?_⟩
              refine List.forall_mem_cons.2 ⟨fun _ _ _ _ _ h => h, ?_⟩
              refine List.forall_mem_cons.2 ⟨fun _ _ _ _ _ h => h, ?_⟩
              refine List.forall_mem_cons.2 ⟨fun _ _ _ _ _ h => h, ?_⟩
              refine List.forall_mem_cons.2 ⟨fun _ _ _ _ _ h => h, ?_⟩
              refine List.forall_mem_cons.2 ⟨fun _ _ _ _ _ h => h, ?_⟩
              refine List.forall_mem_cons.2 ⟨fun _ _ _ _ _ h => h, ?_⟩
              refine List.forall_mem_cons.2 ⟨fun _ _ _ _ _ h => h, ?_⟩
              refine List.forall_mem_cons.2 ⟨fun _ _ _ _ _ h => h, ?_⟩
              refine List.forall_mem_cons.2 ⟨fun _ _ _ _ _ h => h, ?_⟩
              refine List.forall_mem_cons.2 ⟨fun _ _ _ _ _ h => h, ?_⟩
              refine List.forall_mem_cons.2 ⟨fun _ _ _ _ _ h => h, ?_⟩
              refine List.forall_mem_cons.2 ⟨fun _ _ _ _ _ h => h, ?_⟩
              refine List.forall_mem_cons.2 ⟨fun _ _ _ _ _ h => h, ?_⟩
              refine List.forall_mem_cons.2 ⟨fun _ _ _ _ _ h => h, ?_⟩
              refine List.forall_mem_cons.2 ⟨fun _ _ _ _ _ h => h, ?_⟩
              refine List.forall_mem_cons.2 ⟨fun _ _ _ _ _ h => h, ?_⟩
              refine List.forall_mem_cons.2 ⟨fun _ _ _ _ _ h => h, ?_⟩
              refine List.forall_mem_cons.2 ⟨fun _ _ _ _ _ h => h, ?_⟩
              refine List.forall_mem_cons.2 ⟨fun _ _ _ _ _ h => h, ?_⟩
              refine List.forall_mem_cons.2 ⟨fun _ _ _ _ _ h => h, ?_⟩
              refine List.forall_mem_cons.2 ⟨fun _ _ _ _ _ h => h, ?_⟩
              refine List.forall_mem_cons.2 ⟨fun _ _ _ _ _ h => h, ?_⟩
              refine List.forall_mem_cons.2 ⟨fun _ _ _ _ _ h => h, ?_⟩
              refine List.forall_mem_cons.2 ⟨fun _ _ _ _ _ h => h, ?_⟩
              refine List.forall_mem_cons.2 ⟨fun _ _ _ _ _ h => h, ?_⟩
              refine List.forall_mem_cons.2 ⟨fun _ _ _ _ _ h => h, ?_⟩
              exact fun _ h => absurd h (by simp)
            case good =>
              refine Rg.good_cons ?_ ?_
              · intro ac w' cx hn
                have e0 := cx.at_ 0 (by kernel_rfl) rfl
                refine .inl ⟨(Rg.wanted_none rfl), fun K hK => ?_⟩
                go_simp
                exact hK _ _ (Below.refl _ _) (fun t ht => by injection ht with ht; subst ht; exact rfl)
              refine Rg.good_cons ?_ ?_
              · intro ac w' cx hn
                have e3 := cx.at_ 3 (by kernel_rfl) rfl
                refine .inl ⟨(Rg.wanted_none rfl), fun K hK => ?_⟩
                go_simp
                exact hK _ _ (Below.refl _ _) (fun t ht => by injection ht with ht; subst ht; exact rfl)
              refine Rg.good_cons ?_ ?_
              · intro ac w' cx hn
                obtain ⟨v10, e10, r10⟩ := hn 10 (Rg.mem_of (by kernel_rfl))
                obtain rfl : v10 = .slice (some ⟨b, o, none⟩) n cp := r10
                obtain ⟨v11, e11, r11⟩ := hn 11 (Rg.mem_of (by kernel_rfl))
                obtain rfl : v11 = .int .i64 (k : Int) := r11
                refine .inl ⟨(Rg.wanted_none rfl), fun K hK => ?_⟩
                have hkn : k < n := HLT.out
                go_simp
                exact hK _ _ (Below.refl _ _) (fun t ht => by injection ht with ht; subst ht; exact rfl)
              refine Rg.good_cons ?_ ?_
              · intro ac w' cx hn
                obtain ⟨v12, e12, r12⟩ := hn 12 (Rg.mem_of (by kernel_rfl))
                obtain rfl : v12 = .pointer (some ⟨b, o + k * 9, none⟩) := r12
                refine .inl ⟨(Rg.wanted_none rfl), fun K hK => ?_⟩
                go_simp
                exact hK _ _ (Below.refl _ _) (fun t ht => by injection ht with ht; subst ht; exact rfl)
              refine Rg.good_cons ?_ ?_
              · intro ac w' cx hn
                obtain ⟨v13, e13, r13⟩ := hn 13 (Rg.mem_of (by kernel_rfl))
                obtain rfl : v13 = .pointer (some ⟨b, o + k * 9, none⟩) := r13
                refine .inl ⟨(Rg.wanted_none rfl), fun K hK => ?_⟩
                have a0' := (cx.bel.cell (block_lt_of_cell a0)).trans a0
                go_simp
                exact hK _ _ (Below.refl _ _) (fun t ht => by injection ht with ht; subst ht; exact rfl)
              refine Rg.good_cons ?_ ?_
              · intro ac w' cx hn
                obtain ⟨v14, e14, r14⟩ := hn 14 (Rg.mem_of (by kernel_rfl))
                obtain rfl : v14 = .int .i64 s.t := r14
                refine .inl ⟨(Rg.wanted_none rfl), fun K hK => ?_⟩
                go_simp
                refine (reftime_any s.t w').mono ?_
                rintro y w5 ⟨rfl, rfl⟩
                rw [HI.out]
                exact hK _ _ (Below.refl _ _) (fun t ht => by injection ht with ht; subst ht; exact rfl)
              refine Rg.good_cons ?_ ?_
              · intro ac w' cx hn
                obtain ⟨v15, e15, r15⟩ := hn 15 (Rg.mem_of (by kernel_rfl))
                obtain rfl : v15 = .bool true := r15
                refine .inl ⟨(Rg.wanted_none rfl), fun K hK => ?_⟩
                go_simp
                exact hK _ _ (Below.refl _ _) (fun t ht => by injection ht with ht; subst ht; exact rfl)
              refine Rg.good_cons ?_ ?_
              · intro ac w' cx hn
                obtain ⟨v16, e16, r16⟩ := hn 16 (Rg.mem_of (by kernel_rfl))
                obtain rfl : v16 = .bool false := r16
                refine .inl ⟨(Rg.wanted_none rfl), fun K hK => ?_⟩
                go_simp
                exact hK _ _ (Below.refl _ _) (fun t ht => by injection ht with ht; subst ht; exact rfl)
              refine Rg.good_cons ?_ ?_
              · intro ac w' cx hn
                have e0 := cx.at_ 0 (by kernel_rfl) rfl
                obtain ⟨v17, e17, r17⟩ := hn 17 (Rg.mem_of (by kernel_rfl))
                obtain rfl : v17 = .bool false := r17
                refine .inl ⟨((Rg.wanted_some (t := 17) rfl (by kernel_rfl) e17).trans rfl), fun K hK => ?_⟩
                go_simp
                exact hK _ _ (Below.refl _ _) (fun t ht => by injection ht with ht; subst ht; exact rfl)
              refine Rg.good_cons ?_ ?_
              · intro ac w' cx hn
                have e3 := cx.at_ 3 (by kernel_rfl) rfl
                obtain ⟨v17, e17, r17⟩ := hn 17 (Rg.mem_of (by kernel_rfl))
                obtain rfl : v17 = .bool false := r17
                refine .inl ⟨((Rg.wanted_some (t := 17) rfl (by kernel_rfl) e17).trans rfl), fun K hK => ?_⟩
                go_simp
                exact hK _ _ (Below.refl _ _) (fun t ht => by injection ht with ht; subst ht; exact rfl)
              refine Rg.good_cons ?_ ?_
              · intro ac w' cx hn
                obtain ⟨v18, e18, r18⟩ := hn 18 (Rg.mem_of (by kernel_rfl))
                obtain rfl : v18 = .slice (some ⟨b, o, none⟩) n cp := r18
                obtain ⟨v19, e19, r19⟩ := hn 19 (Rg.mem_of (by kernel_rfl))
                obtain rfl : v19 = .int .i64 (k : Int) := r19
                obtain ⟨v17, e17, r17⟩ := hn 17 (Rg.mem_of (by kernel_rfl))
                obtain rfl : v17 = .bool false := r17
                refine .inl ⟨((Rg.wanted_some (t := 17) rfl (by kernel_rfl) e17).trans rfl), fun K hK => ?_⟩
                have hkn : k < n := HLT.out
                go_simp
                exact hK _ _ (Below.refl _ _) (fun t ht => by injection ht with ht; subst ht; exact rfl)
              refine Rg.good_cons ?_ ?_
              · intro ac w' cx hn
                obtain ⟨v20, e20, r20⟩ := hn 20 (Rg.mem_of (by kernel_rfl))
                obtain rfl : v20 = .pointer (some ⟨b, o + k * 9, none⟩) := r20
                obtain ⟨v17, e17, r17⟩ := hn 17 (Rg.mem_of (by kernel_rfl))
                obtain rfl : v17 = .bool false := r17
                refine .inl ⟨((Rg.wanted_some (t := 17) rfl (by kernel_rfl) e17).trans rfl), fun K hK => ?_⟩
                go_simp
                exact hK _ _ (Below.refl _ _) (fun t ht => by injection ht with ht; subst ht; exact rfl)
              refine Rg.good_cons ?_ ?_
              · intro ac w' cx hn
                obtain ⟨v21, e21, r21⟩ := hn 21 (Rg.mem_of (by kernel_rfl))
                obtain rfl : v21 = .pointer (some ⟨b, o + k * 9 + 1, none⟩) := r21
                obtain ⟨v17, e17, r17⟩ := hn 17 (Rg.mem_of (by kernel_rfl))
                obtain rfl : v17 = .bool false := r17
                refine .inl ⟨((Rg.wanted_some (t := 17) rfl (by kernel_rfl) e17).trans rfl), fun K hK => ?_⟩
                have a0' := (cx.bel.cell (block_lt_of_cell a0)).trans a0
                have a1' := (cx.bel.cell (block_lt_of_cell a1)).trans a1
                have a2' := (cx.bel.cell (block_lt_of_cell a2)).trans a2
                have a3' := (cx.bel.cell (block_lt_of_cell a3)).trans a3
                have a4' := (cx.bel.cell (block_lt_of_cell a4)).trans a4
                have a5' := (cx.bel.cell (block_lt_of_cell a5)).trans a5
                have a6' := (cx.bel.cell (block_lt_of_cell a6)).trans a6
                have a7' := (cx.bel.cell (block_lt_of_cell a7)).trans a7
                have a8' := (cx.bel.cell (block_lt_of_cell a8)).trans a8
                go_simp
                exact hK _ _ (Below.refl _ _) (fun t ht => by injection ht with ht; subst ht; exact rfl)
              refine Rg.good_cons ?_ ?_
              · intro ac w' cx hn
                obtain ⟨v22, e22, r22⟩ := hn 22 (Rg.mem_of (by kernel_rfl))
                obtain rfl : v22 = .agg #[.int .i64 s.h.k, .int .i64 s.h.s, .int .i64 s.h.z, .int .u64 s.h.zc, .int .u64 s.h.ct, .int .i64 s.h.sm, .slice A s.h.P.length c, .slice B s.h.Q.length d] := r22
                obtain ⟨v17, e17, r17⟩ := hn 17 (Rg.mem_of (by kernel_rfl))
                obtain rfl : v17 = .bool false := r17
                refine .inl ⟨((Rg.wanted_some (t := 17) rfl (by kernel_rfl) e17).trans rfl), fun K hK => ?_⟩
                go_simp
                refine (refcheckN s.h.k s.h.s s.h.z s.h.zc s.h.ct (.int .i64 s.h.sm) A B c d s.h.P s.h.Q w' HSB.out.z0 HSB.out.z1 (HSB.out.P.below cx.bel) (HSB.out.Q.below cx.bel) 0 HZ.out).mono ?_
                rintro y w5 ⟨rfl, hb5⟩
                exact hK _ _ hb5 (fun t ht => by injection ht with ht; subst ht; exact rfl)
              refine Rg.good_cons ?_ ?_
              · intro ac w' cx hn
                obtain ⟨v23, e23, r23⟩ := hn 23 (Rg.mem_of (by kernel_rfl))
                obtain rfl : v23 = .int .i64 0 := r23
                obtain ⟨v17, e17, r17⟩ := hn 17 (Rg.mem_of (by kernel_rfl))
                obtain rfl : v17 = .bool false := r17
                refine .inl ⟨((Rg.wanted_some (t := 17) rfl (by kernel_rfl) e17).trans rfl), fun K hK => ?_⟩
                go_simp
                exact hK _ _ (Below.refl _ _) (fun t ht => by injection ht with ht; subst ht; exact rfl)
              refine Rg.good_cons ?_ ?_
              · intro ac w' cx hn
                obtain ⟨v17, e17, r17⟩ := hn 17 (Rg.mem_of (by kernel_rfl))
                obtain rfl : v17 = .bool false := r17
                obtain ⟨v24, e24, r24⟩ := hn 24 (Rg.mem_of (by kernel_rfl))
                obtain rfl : v24 = .bool false := r24
                refine .inl ⟨(Rg.wanted_none rfl), fun K hK => ?_⟩
                go_simp
                exact hK _ _ (Below.refl _ _) (fun t ht => by injection ht with ht; subst ht; exact rfl)
              refine Rg.good_cons ?_ ?_
              · intro ac w' cx hn
                obtain ⟨v25, e25, r25⟩ := hn 25 (Rg.mem_of (by kernel_rfl))
                obtain rfl : v25 = .bool false := r25
                refine .inl ⟨(Rg.wanted_none rfl), fun K hK => ?_⟩
                go_simp
                exact hK _ _ (Below.refl _ _) (fun t ht => by injection ht with ht; subst ht; exact rfl)
              refine Rg.good_cons ?_ ?_
              · intro ac w' cx hn
                have e3 := cx.at_ 3 (by kernel_rfl) rfl
                obtain ⟨v26, e26, r26⟩ := hn 26 (Rg.mem_of (by kernel_rfl))
                obtain rfl : v26 = .bool false := r26
                refine .inl ⟨((Rg.wanted_some (t := 26) rfl (by kernel_rfl) e26).trans rfl), fun K hK => ?_⟩
                go_simp
                exact hK _ _ (Below.refl _ _) (fun t ht => by injection ht with ht; subst ht; exact rfl)
              refine Rg.good_cons ?_ ?_
              · intro ac w' cx hn
                obtain ⟨v27, e27, r27⟩ := hn 27 (Rg.mem_of (by kernel_rfl))
                obtain rfl : v27 = .int .i64 (k : Int) := r27
                obtain ⟨v26, e26, r26⟩ := hn 26 (Rg.mem_of (by kernel_rfl))
                obtain rfl : v26 = .bool false := r26
                refine .inl ⟨((Rg.wanted_some (t := 26) rfl (by kernel_rfl) e26).trans rfl), fun K hK => ?_⟩
                have hk1 : ¬ 0 < k := by have := HK0.out; omega
                go_simp
                exact hK _ _ (Below.refl _ _) (fun t ht => by injection ht with ht; subst ht; exact rfl)
              refine Rg.good_cons ?_ ?_
              · intro ac w' cx hn
                obtain ⟨v28, e28, r28⟩ := hn 28 (Rg.mem_of (by kernel_rfl))
                obtain rfl : v28 = .bool false := r28
                obtain ⟨v26, e26, r26⟩ := hn 26 (Rg.mem_of (by kernel_rfl))
                obtain rfl : v26 = .bool false := r26
                refine .inl ⟨((Rg.wanted_some (t := 26) rfl (by kernel_rfl) e26).trans rfl), fun K hK => ?_⟩
                go_simp
                exact hK _ _ (Below.refl _ _) (fun t ht => by injection ht with ht; subst ht; exact rfl)
              refine Rg.good_cons ?_ ?_
              · intro ac w' cx hn
                have e0 := cx.at_ 0 (by kernel_rfl) rfl
                obtain ⟨v29, e29, r29⟩ := hn 29 (Rg.mem_of (by kernel_rfl))
                obtain rfl : v29 = .bool false := r29
                exact .inr ⟨((Rg.wanted_some (t := 29) rfl (by kernel_rfl) e29).trans rfl), fun t ht => by injection ht with ht; subst ht; exact rfl⟩
              refine Rg.good_cons ?_ ?_
              · intro ac w' cx hn
                have e3 := cx.at_ 3 (by kernel_rfl) rfl
                obtain ⟨v29, e29, r29⟩ := hn 29 (Rg.mem_of (by kernel_rfl))
                obtain rfl : v29 = .bool false := r29
                exact .inr ⟨((Rg.wanted_some (t := 29) rfl (by kernel_rfl) e29).trans rfl), fun t ht => by injection ht with ht; subst ht; exact rfl⟩
              refine Rg.good_cons ?_ ?_
              · intro ac w' cx hn
                obtain ⟨v30, e30, r30⟩ := hn 30 (Rg.mem_of (by kernel_rfl))
                obtain rfl : v30 = undef := r30
                obtain ⟨v31, e31, r31⟩ := hn 31 (Rg.mem_of (by kernel_rfl))
                obtain rfl : v31 = undef := r31
                obtain ⟨v29, e29, r29⟩ := hn 29 (Rg.mem_of (by kernel_rfl))
                obtain rfl : v29 = .bool false := r29
                exact .inr ⟨((Rg.wanted_some (t := 29) rfl (by kernel_rfl) e29).trans rfl), fun t ht => by injection ht with ht; subst ht; exact rfl⟩
              refine Rg.good_cons ?_ ?_
              · intro ac w' cx hn
                obtain ⟨v32, e32, r32⟩ := hn 32 (Rg.mem_of (by kernel_rfl))
                obtain rfl : v32 = undef := r32
                obtain ⟨v29, e29, r29⟩ := hn 29 (Rg.mem_of (by kernel_rfl))
                obtain rfl : v29 = .bool false := r29
                exact .inr ⟨((Rg.wanted_some (t := 29) rfl (by kernel_rfl) e29).trans rfl), fun t ht => by injection ht with ht; subst ht; exact rfl⟩
              refine Rg.good_cons ?_ ?_
              · intro ac w' cx hn
                obtain ⟨v33, e33, r33⟩ := hn 33 (Rg.mem_of (by kernel_rfl))
                obtain rfl : v33 = undef := r33
                obtain ⟨v29, e29, r29⟩ := hn 29 (Rg.mem_of (by kernel_rfl))
                obtain rfl : v29 = .bool false := r29
                exact .inr ⟨((Rg.wanted_some (t := 29) rfl (by kernel_rfl) e29).trans rfl), fun t ht => by injection ht with ht; subst ht; exact rfl⟩
              refine Rg.good_cons ?_ ?_
              · intro ac w' cx hn
                have e0 := cx.at_ 0 (by kernel_rfl) rfl
                obtain ⟨v29, e29, r29⟩ := hn 29 (Rg.mem_of (by kernel_rfl))
                obtain rfl : v29 = .bool false := r29
                exact .inr ⟨((Rg.wanted_some (t := 29) rfl (by kernel_rfl) e29).trans rfl), fun t ht => by injection ht with ht; subst ht; exact rfl⟩
              refine Rg.good_cons ?_ ?_
              · intro ac w' cx hn
                have e3 := cx.at_ 3 (by kernel_rfl) rfl
                obtain ⟨v29, e29, r29⟩ := hn 29 (Rg.mem_of (by kernel_rfl))
                obtain rfl : v29 = .bool false := r29
                exact .inr ⟨((Rg.wanted_some (t := 29) rfl (by kernel_rfl) e29).trans rfl), fun t ht => by injection ht with ht; subst ht; exact rfl⟩
              refine Rg.good_cons ?_ ?_
              · intro ac w' cx hn
                obtain ⟨v36, e36, r36⟩ := hn 36 (Rg.mem_of (by kernel_rfl))
                obtain rfl : v36 = undef := r36
                obtain ⟨v29, e29, r29⟩ := hn 29 (Rg.mem_of (by kernel_rfl))
                obtain rfl : v29 = .bool false := r29
                exact .inr ⟨((Rg.wanted_some (t := 29) rfl (by kernel_rfl) e29).trans rfl), fun t ht => by injection ht with ht; subst ht; exact rfl⟩
              refine Rg.good_cons ?_ ?_
              · intro ac w' cx hn
                obtain ⟨v35, e35, r35⟩ := hn 35 (Rg.mem_of (by kernel_rfl))
                obtain rfl : v35 = undef := r35
                obtain ⟨v37, e37, r37⟩ := hn 37 (Rg.mem_of (by kernel_rfl))
                obtain rfl : v37 = undef := r37
                obtain ⟨v29, e29, r29⟩ := hn 29 (Rg.mem_of (by kernel_rfl))
                obtain rfl : v29 = .bool false := r29
                exact .inr ⟨((Rg.wanted_some (t := 29) rfl (by kernel_rfl) e29).trans rfl), fun t ht => by injection ht with ht; subst ht; exact rfl⟩
              refine Rg.good_cons ?_ ?_
              · intro ac w' cx hn
                obtain ⟨v38, e38, r38⟩ := hn 38 (Rg.mem_of (by kernel_rfl))
                obtain rfl : v38 = undef := r38
                obtain ⟨v29, e29, r29⟩ := hn 29 (Rg.mem_of (by kernel_rfl))
                obtain rfl : v29 = .bool false := r29
                exact .inr ⟨((Rg.wanted_some (t := 29) rfl (by kernel_rfl) e29).trans rfl), fun t ht => by injection ht with ht; subst ht; exact rfl⟩
              refine Rg.good_cons ?_ ?_
              · intro ac w' cx hn
                obtain ⟨v39, e39, r39⟩ := hn 39 (Rg.mem_of (by kernel_rfl))
                obtain rfl : v39 = undef := r39
                obtain ⟨v29, e29, r29⟩ := hn 29 (Rg.mem_of (by kernel_rfl))
                obtain rfl : v29 = .bool false := r29
                exact .inr ⟨((Rg.wanted_some (t := 29) rfl (by kernel_rfl) e29).trans rfl), fun t ht => by injection ht with ht; subst ht; exact rfl⟩
              refine Rg.good_cons ?_ ?_
              · intro ac w' cx hn
                obtain ⟨v34, e34, r34⟩ := hn 34 (Rg.mem_of (by kernel_rfl))
                obtain rfl : v34 = undef := r34
                obtain ⟨v40, e40, r40⟩ := hn 40 (Rg.mem_of (by kernel_rfl))
                obtain rfl : v40 = undef := r40
                obtain ⟨v29, e29, r29⟩ := hn 29 (Rg.mem_of (by kernel_rfl))
                obtain rfl : v29 = .bool false := r29
                exact .inr ⟨((Rg.wanted_some (t := 29) rfl (by kernel_rfl) e29).trans rfl), fun t ht => by injection ht with ht; subst ht; exact rfl⟩
              refine Rg.good_cons ?_ ?_
              · intro ac w' cx hn
                obtain ⟨v29, e29, r29⟩ := hn 29 (Rg.mem_of (by kernel_rfl))
                obtain rfl : v29 = .bool false := r29
                obtain ⟨v41, e41, r41⟩ := hn 41 (Rg.mem_of (by kernel_rfl))
                obtain rfl : v41 = undef := r41
                obtain ⟨v26, e26, r26⟩ := hn 26 (Rg.mem_of (by kernel_rfl))
                obtain rfl : v26 = .bool false := r26
                refine .inl ⟨((Rg.wanted_some (t := 26) rfl (by kernel_rfl) e26).trans rfl), fun K hK => ?_⟩
                go_simp
                exact hK _ _ (Below.refl _ _) (fun t ht => by injection ht with ht; subst ht; exact rfl)
              refine Rg.good_cons ?_ ?_
              · intro ac w' cx hn
                obtain ⟨v26, e26, r26⟩ := hn 26 (Rg.mem_of (by kernel_rfl))
                obtain rfl : v26 = .bool false := r26
                obtain ⟨v42, e42, r42⟩ := hn 42 (Rg.mem_of (by kernel_rfl))
                obtain rfl : v42 = .bool false := r42
                refine .inl ⟨(Rg.wanted_none rfl), fun K hK => ?_⟩
                go_simp
                exact hK _ _ (Below.refl _ _) (fun t ht => by injection ht with ht; subst ht; exact rfl)
              exact Rg.good_nil
            case done =>
              intro u w3 hb3 hr
              have e43 : u 43 = .bool false := hr 43 (by simp)
              simp only [Rg.fillL_cons, Rg.fillL_nil, if_true, if_false, Bool.false_eq_true, e43]
              have HB3 := Lib.hid (HB.out.trans (hb3.mono HB.out.size))
              clear hr hb3 e43 a0 a1 a2 a3 a4 a5 a6 a7 a8
              have HF2 := Lib.hid (show k + 1 ≤ n ∧ ∀ j, j < k + 1 → OkAt l j from ⟨HLT.out, fun j hj => by
                have : j = 0 := by have := HK0.out; omega
                subst this
                intro x hx
                rw [← HK0.out, HS.out] at hx
                injection hx with hx
                exact ⟨hx ▸ HR.out, fun p h0 => absurd h0 (by omega)⟩⟩)
              go_wp2_with fail
              go_roundw
              case rel => exact ⟨k + 1, by go_num, HF2, HB3⟩
              case measure => simp [intOf]; have := HLT.out; omega
          · have HK0 := Lib.hid hk0
            obtain ⟨j, hj⟩ : ∃ j, k = j + 1 := ⟨k - 1, by omega⟩
            have HJ := Lib.hid hj
            obtain ⟨p, hp⟩ : ∃ p, l[j]? = some p := ⟨_, List.getElem?_eq_getElem (by have := HN.out; omega)⟩
            obtain ⟨b', o', e', hat2⟩ := HH.out.at_ hp
            injection e' with e'
            injection e' with e1 e2 _
            subst e1 e2
            obtain ⟨_, _, _, _, ⟨b0, _, _, _, _, _, _, _, _⟩, _⟩ := (hat2.below HB.out).cells
            have HPP := Lib.hid hp
            obtain ⟨zb, hzb⟩ : ∃ zb, decide (s.t ≤ p.t) = zb := ⟨_, rfl⟩
            have HZB := Lib.hid hzb
            have HWJ := Lib.hid (show IntKind.i64.wrap (j : Int) = (j : Int) by rw [IntWalk.i64_left]; exact IntWalk.wrap64_in _ ⟨by omega, by omega⟩)
            clear hk0 hj hp hat2 hzb
            go_wp2_with fail
            refine Rg.wp_region_inv (R := fun sl v w => match sl with
                | 10 => v = .slice (some ⟨b, o, none⟩) n cp
                | 11 => v = .int .i64 (k : Int)
                | 12 => v = .pointer (some ⟨b, o + k * 9, none⟩)
                | 13 => v = .pointer (some ⟨b, o + k * 9, none⟩)
                | 14 => v = .int .i64 s.t
                | 15 => v = .bool true
                | 16 => v = .bool false
                | 17 => v = .bool false
                | 18 => v = .slice (some ⟨b, o, none⟩) n cp
                | 19 => v = .int .i64 (k : Int)
                | 20 => v = .pointer (some ⟨b, o + k * 9, none⟩)
                | 21 => v = .pointer (some ⟨b, o + k * 9 + 1, none⟩)
                | 22 => v = .agg #[.int .i64 s.h.k, .int .i64 s.h.s, .int .i64 s.h.z, .int .u64 s.h.zc, .int .u64 s.h.ct, .int .i64 s.h.sm, .slice A s.h.P.length c, .slice B s.h.Q.length d]
                | 23 => v = .int .i64 0
                | 24 => v = .bool false
                | 25 => v = .bool false
                | 26 => v = .bool false
                | 27 => v = .int .i64 (k : Int)
                | 28 => v = .bool true
                | 29 => v = .bool true
                | 30 => v = .slice (some ⟨b, o, none⟩) n cp
                | 31 => v = .int .i64 (k : Int)
                | 32 => v = .pointer (some ⟨b, o + k * 9, none⟩)
                | 33 => v = .pointer (some ⟨b, o + k * 9, none⟩)
                | 34 => v = .int .i64 s.t
                | 35 => v = .slice (some ⟨b, o, none⟩) n cp
                | 36 => v = .int .i64 (k : Int)
                | 37 => v = .int .i64 (j : Int)
                | 38 => v = .pointer (some ⟨b, o + j * 9, none⟩)
                | 39 => v = .pointer (some ⟨b, o + j * 9, none⟩)
                | 40 => v = .int .i64 p.t
                | 41 => v = .bool zb
                | 42 => v = .bool zb
                | 43 => v = .bool zb
                | _ => True) [10, 11, 12, 13, 14, 15, 16, 17, 18, 19, 20, 21, 22, 23, 24, 25, 26, 27, 28, 29, 30, 31, 32, 33, 34, 35, 36, 37, 38, 39, 40, 41, 42, 43] 44 [false, false, false, false, false, false, false, false, false, false, true, true, true, true, true, true, true, true, true, true, true, true, true, true, true, true, true, true, true, true, true, true, true, true, true, true, true, true, true, true, true, true, true, true] (by kernel_rfl) rfl (by kernel_rfl) (by kernel_rfl) (by kernel_rfl) (by kernel_rfl) (by kernel_rfl) ?mono ?good ?done
            case mono =>
              refine List.forall_mem_cons.2 ⟨fun _ _ _ _ _ h => h, ?_⟩
              refine List.forall_mem_cons.2 ⟨fun _ _ _ _ _ h => h, ?_⟩
              refine List.forall_mem_cons.2 ⟨fun _ _ _ _ _ h => h, ?_⟩
              refine List.forall_mem_cons.2 ⟨fun _ _ _ _ _ h => h, ?_⟩
              refine List.forall_mem_cons.2 ⟨fun _ _ _ _ _ h => h, ?_⟩
              refine List.forall_mem_cons.2 ⟨fun _ _ _ _ _ h => h, ?_⟩
              refine List.forall_mem_cons.2 ⟨fun _ _ _ _ _ h => h, ?_⟩
              refine List.forall_mem_cons.2 ⟨fun _ _ _ _ _ h => h, ?_⟩
              refine List.forall_mem_cons.2 ⟨fun _ _ _ _ _ h => h, ?_⟩
              refine List.forall_mem_cons.2 ⟨fun _ _ _ _ _ h => h, ?_⟩
              refine List.forall_mem_cons.2 ⟨fun _ _ _ _ _ h => h, ?_⟩
              refine List.forall_mem_cons.2 ⟨fun _ _ _ _ _ h => h, ?_⟩
              refine List.forall_mem_cons.2 ⟨fun _ _ _ _ _ h => h, ?_⟩
              refine List.forall_mem_cons.2 ⟨fun _ _ _ _ _ h => h, ?_⟩
              refine List.forall_mem_cons.2 ⟨fun _ _ _ _ _ h => h, ?_⟩
              refine List.forall_mem_cons.2 ⟨fun _ _ _ _ _ h => h, ?_⟩
              refine List.forall_mem_cons.2 ⟨fun _ _ _ _ _ h => h, ?_⟩
              refine List.forall_mem_cons.2 ⟨fun _ _ _ _ _ h => h, ?_⟩
              refine List.forall_mem_cons.2 ⟨fun _ _ _ _ _ h => h, ?_⟩
              refine List.forall_mem_cons.2 ⟨fun _ _ _ _ _ h => h, ?_⟩
              refine List.forall_mem_cons.2 ⟨fun _ _ _ _ _ h => h, ?_⟩
              refine List.forall_mem_cons.2 ⟨fun _ _ _ _ _ h => h, ?_⟩
              refine List.forall_mem_cons.2 ⟨fun _ _ _ _ _ h => h, ?_⟩
              refine List.forall_mem_cons.2 ⟨fun _ _ _ _ _ h => h, ?_⟩
              refine List.forall_mem_cons.2 ⟨fun _ _ _ _ _ h => h, ?_⟩
              refine List.forall_mem_cons.2 ⟨fun _ _ _ _ _ h => h, ?_⟩
              refine List.forall_mem_cons.2 ⟨fun _ _ _ _ _ h => h, ?_⟩
              refine List.forall_mem_cons.2 ⟨fun _ _ _ _ _ h => h, ?_⟩
              refine List.forall_mem_cons.2 ⟨fun _ _ _ _ _ h => h, ?_⟩
              refine List.forall_mem_cons.2 ⟨fun _ _ _ _ _ h => h, ?_⟩
              refine List.forall_mem_cons.2 ⟨fun _ _ _ _ _ h => h, ?_⟩
              refine List.forall_mem_cons.2 ⟨fun _ _ _ _ _ h => h, ?_⟩
              refine List.forall_mem_cons.2 ⟨fun _ _ _ _ _ h => h, ?_⟩
              refine List.forall_mem_cons.2 ⟨fun _ _ _ _ _ h => h, ?_⟩
              exact fun _ h => absurd h (by simp)
            case good =>
              refine Rg.good_cons ?_ ?_
              · intro ac w' cx hn
                have e0 := cx.at_ 0 (by kernel_rfl) rfl
                refine .inl ⟨(Rg.wanted_none rfl), fun K hK => ?_⟩
                go_simp
                exact hK _ _ (Below.refl _ _) (fun t ht => by injection ht with ht; subst ht; exact rfl)
              refine Rg.good_cons ?_ ?_
              · intro ac w' cx hn
                have e3 := cx.at_ 3 (by kernel_rfl) rfl
                refine .inl ⟨(Rg.wanted_none rfl), fun K hK => ?_⟩
                go_simp
                exact hK _ _ (Below.refl _ _) (fun t ht => by injection ht with ht; subst ht; exact rfl)
              refine Rg.good_cons ?_ ?_
              · intro ac w' cx hn
                obtain ⟨v10, e10, r10⟩ := hn 10 (Rg.mem_of (by kernel_rfl))
                obtain rfl : v10 = .slice (some ⟨b, o, none⟩) n cp := r10
                obtain ⟨v11, e11, r11⟩ := hn 11 (Rg.mem_of (by kernel_rfl))
                obtain rfl : v11 = .int .i64 (k : Int) := r11
                refine .inl ⟨(Rg.wanted_none rfl), fun K hK => ?_⟩
                have hkn : k < n := HLT.out
                go_simp
                exact hK _ _ (Below.refl _ _) (fun t ht => by injection ht with ht; subst ht; exact rfl)
              refine Rg.good_cons ?_ ?_
              · intro ac w' cx hn
                obtain ⟨v12, e12, r12⟩ := hn 12 (Rg.mem_of (by kernel_rfl))
                obtain rfl : v12 = .pointer (some ⟨b, o + k * 9, none⟩) := r12
                refine .inl ⟨(Rg.wanted_none rfl), fun K hK => ?_⟩
                go_simp
                exact hK _ _ (Below.refl _ _) (fun t ht => by injection ht with ht; subst ht; exact rfl)
              refine Rg.good_cons ?_ ?_
              · intro ac w' cx hn
                obtain ⟨v13, e13, r13⟩ := hn 13 (Rg.mem_of (by kernel_rfl))
                obtain rfl : v13 = .pointer (some ⟨b, o + k * 9, none⟩) := r13
                refine .inl ⟨(Rg.wanted_none rfl), fun K hK => ?_⟩
                have a0' := (cx.bel.cell (block_lt_of_cell a0)).trans a0
                go_simp
                exact hK _ _ (Below.refl _ _) (fun t ht => by injection ht with ht; subst ht; exact rfl)
              refine Rg.good_cons ?_ ?_
              · intro ac w' cx hn
                obtain ⟨v14, e14, r14⟩ := hn 14 (Rg.mem_of (by kernel_rfl))
                obtain rfl : v14 = .int .i64 s.t := r14
                refine .inl ⟨(Rg.wanted_none rfl), fun K hK => ?_⟩
                go_simp
                refine (reftime_any s.t w').mono ?_
                rintro y w5 ⟨rfl, rfl⟩
                rw [HI.out]
                exact hK _ _ (Below.refl _ _) (fun t ht => by injection ht with ht; subst ht; exact rfl)
              refine Rg.good_cons ?_ ?_
              · intro ac w' cx hn
                obtain ⟨v15, e15, r15⟩ := hn 15 (Rg.mem_of (by kernel_rfl))
                obtain rfl : v15 = .bool true := r15
                refine .inl ⟨(Rg.wanted_none rfl), fun K hK => ?_⟩
                go_simp
                exact hK _ _ (Below.refl _ _) (fun t ht => by injection ht with ht; subst ht; exact rfl)
              refine Rg.good_cons ?_ ?_
              · intro ac w' cx hn
                obtain ⟨v16, e16, r16⟩ := hn 16 (Rg.mem_of (by kernel_rfl))
                obtain rfl : v16 = .bool false := r16
                refine .inl ⟨(Rg.wanted_none rfl), fun K hK => ?_⟩
                go_simp
                exact hK _ _ (Below.refl _ _) (fun t ht => by injection ht with ht; subst ht; exact rfl)
              refine Rg.good_cons ?_ ?_
              · intro ac w' cx hn
                have e0 := cx.at_ 0 (by kernel_rfl) rfl
                obtain ⟨v17, e17, r17⟩ := hn 17 (Rg.mem_of (by kernel_rfl))
                obtain rfl : v17 = .bool false := r17
                refine .inl ⟨((Rg.wanted_some (t := 17) rfl (by kernel_rfl) e17).trans rfl), fun K hK => ?_⟩
                go_simp
                exact hK _ _ (Below.refl _ _) (fun t ht => by injection ht with ht; subst ht; exact rfl)
              refine Rg.good_cons ?_ ?_
              · intro ac w' cx hn
                have e3 := cx.at_ 3 (by kernel_rfl) rfl
                obtain ⟨v17, e17, r17⟩ := hn 17 (Rg.mem_of (by kernel_rfl))
                obtain rfl : v17 = .bool false := r17
                refine .inl ⟨((Rg.wanted_some (t := 17) rfl (by kernel_rfl) e17).trans rfl), fun K hK => ?_⟩
                go_simp
                exact hK _ _ (Below.refl _ _) (fun t ht => by injection ht with ht; subst ht; exact rfl)
              refine Rg.good_cons ?_ ?_
              · intro ac w' cx hn
                obtain ⟨v18, e18, r18⟩ := hn 18 (Rg.mem_of (by kernel_rfl))
                obtain rfl : v18 = .slice (some ⟨b, o, none⟩) n cp := r18
                obtain ⟨v19, e19, r19⟩ := hn 19 (Rg.mem_of (by kernel_rfl))
                obtain rfl : v19 = .int .i64 (k : Int) := r19
                obtain ⟨v17, e17, r17⟩ := hn 17 (Rg.mem_of (by kernel_rfl))
                obtain rfl : v17 = .bool false := r17
                refine .inl ⟨((Rg.wanted_some (t := 17) rfl (by kernel_rfl) e17).trans rfl), fun K hK => ?_⟩
                have hkn : k < n := HLT.out
                go_simp
                exact hK _ _ (Below.refl _ _) (fun t ht => by injection ht with ht; subst ht; exact rfl)
              refine Rg.good_cons ?_ ?_
              · intro ac w' cx hn
                obtain ⟨v20, e20, r20⟩ := hn 20 (Rg.mem_of (by kernel_rfl))
                obtain rfl : v20 = .pointer (some ⟨b, o + k * 9, none⟩) := r20
                obtain ⟨v17, e17, r17⟩ := hn 17 (Rg.mem_of (by kernel_rfl))
                obtain rfl : v17 = .bool false := r17
                refine .inl ⟨((Rg.wanted_some (t := 17) rfl (by kernel_rfl) e17).trans rfl), fun K hK => ?_⟩
                go_simp
                exact hK _ _ (Below.refl _ _) (fun t ht => by injection ht with ht; subst ht; exact rfl)
              refine Rg.good_cons ?_ ?_
              · intro ac w' cx hn
                obtain ⟨v21, e21, r21⟩ := hn 21 (Rg.mem_of (by kernel_rfl))
                obtain rfl : v21 = .pointer (some ⟨b, o + k * 9 + 1, none⟩) := r21
                obtain ⟨v17, e17, r17⟩ := hn 17 (Rg.mem_of (by kernel_rfl))
                obtain rfl : v17 = .bool false := r17
                refine .inl ⟨((Rg.wanted_some (t := 17) rfl (by kernel_rfl) e17).trans rfl), fun K hK => ?_⟩
                have a0' := (cx.bel.cell (block_lt_of_cell a0)).trans a0
                have a1' := (cx.bel.cell (block_lt_of_cell a1)).trans a1
                have a2' := (cx.bel.cell (block_lt_of_cell a2)).trans a2
                have a3' := (cx.bel.cell (block_lt_of_cell a3)).trans a3
                have a4' := (cx.bel.cell (block_lt_of_cell a4)).trans a4
                have a5' := (cx.bel.cell (block_lt_of_cell a5)).trans a5
                have a6' := (cx.bel.cell (block_lt_of_cell a6)).trans a6
                have a7' := (cx.bel.cell (block_lt_of_cell a7)).trans a7
                have a8' := (cx.bel.cell (block_lt_of_cell a8)).trans a8
                go_simp
                exact hK _ _ (Below.refl _ _) (fun t ht => by injection ht with ht; subst ht; exact rfl)
              refine Rg.good_cons ?_ ?_
              · intro ac w' cx hn
                obtain ⟨v22, e22, r22⟩ := hn 22 (Rg.mem_of (by kernel_rfl))
                obtain rfl : v22 = .agg #[.int .i64 s.h.k, .int .i64 s.h.s, .int .i64 s.h.z, .int .u64 s.h.zc, .int .u64 s.h.ct, .int .i64 s.h.sm, .slice A s.h.P.length c, .slice B s.h.Q.length d] := r22
                obtain ⟨v17, e17, r17⟩ := hn 17 (Rg.mem_of (by kernel_rfl))
                obtain rfl : v17 = .bool false := r17
                refine .inl ⟨((Rg.wanted_some (t := 17) rfl (by kernel_rfl) e17).trans rfl), fun K hK => ?_⟩
                go_simp
                refine (refcheckN s.h.k s.h.s s.h.z s.h.zc s.h.ct (.int .i64 s.h.sm) A B c d s.h.P s.h.Q w' HSB.out.z0 HSB.out.z1 (HSB.out.P.below cx.bel) (HSB.out.Q.below cx.bel) 0 HZ.out).mono ?_
                rintro y w5 ⟨rfl, hb5⟩
                exact hK _ _ hb5 (fun t ht => by injection ht with ht; subst ht; exact rfl)
              refine Rg.good_cons ?_ ?_
              · intro ac w' cx hn
                obtain ⟨v23, e23, r23⟩ := hn 23 (Rg.mem_of (by kernel_rfl))
                obtain rfl : v23 = .int .i64 0 := r23
                obtain ⟨v17, e17, r17⟩ := hn 17 (Rg.mem_of (by kernel_rfl))
                obtain rfl : v17 = .bool false := r17
                refine .inl ⟨((Rg.wanted_some (t := 17) rfl (by kernel_rfl) e17).trans rfl), fun K hK => ?_⟩
                go_simp
                exact hK _ _ (Below.refl _ _) (fun t ht => by injection ht with ht; subst ht; exact rfl)
              refine Rg.good_cons ?_ ?_
              · intro ac w' cx hn
                obtain ⟨v17, e17, r17⟩ := hn 17 (Rg.mem_of (by kernel_rfl))
                obtain rfl : v17 = .bool false := r17
                obtain ⟨v24, e24, r24⟩ := hn 24 (Rg.mem_of (by kernel_rfl))
                obtain rfl : v24 = .bool false := r24
                refine .inl ⟨(Rg.wanted_none rfl), fun K hK => ?_⟩
                go_simp
                exact hK _ _ (Below.refl _ _) (fun t ht => by injection ht with ht; subst ht; exact rfl)
              refine Rg.good_cons ?_ ?_
              · intro ac w' cx hn
                obtain ⟨v25, e25, r25⟩ := hn 25 (Rg.mem_of (by kernel_rfl))
                obtain rfl : v25 = .bool false := r25
                refine .inl ⟨(Rg.wanted_none rfl), fun K hK => ?_⟩
                go_simp
                exact hK _ _ (Below.refl _ _) (fun t ht => by injection ht with ht; subst ht; exact rfl)
              refine Rg.good_cons ?_ ?_
              · intro ac w' cx hn
                have e3 := cx.at_ 3 (by kernel_rfl) rfl
                obtain ⟨v26, e26, r26⟩ := hn 26 (Rg.mem_of (by kernel_rfl))
                obtain rfl : v26 = .bool false := r26
                refine .inl ⟨((Rg.wanted_some (t := 26) rfl (by kernel_rfl) e26).trans rfl), fun K hK => ?_⟩
                go_simp
                exact hK _ _ (Below.refl _ _) (fun t ht => by injection ht with ht; subst ht; exact rfl)
              refine Rg.good_cons ?_ ?_
              · intro ac w' cx hn
                obtain ⟨v27, e27, r27⟩ := hn 27 (Rg.mem_of (by kernel_rfl))
                obtain rfl : v27 = .int .i64 (k : Int) := r27
                obtain ⟨v26, e26, r26⟩ := hn 26 (Rg.mem_of (by kernel_rfl))
                obtain rfl : v26 = .bool false := r26
                refine .inl ⟨((Rg.wanted_some (t := 26) rfl (by kernel_rfl) e26).trans rfl), fun K hK => ?_⟩
                have hk1 : 0 < k := HK0.out
                go_simp
                exact hK _ _ (Below.refl _ _) (fun t ht => by injection ht with ht; subst ht; exact rfl)
              refine Rg.good_cons ?_ ?_
              · intro ac w' cx hn
                obtain ⟨v28, e28, r28⟩ := hn 28 (Rg.mem_of (by kernel_rfl))
                obtain rfl : v28 = .bool true := r28
                obtain ⟨v26, e26, r26⟩ := hn 26 (Rg.mem_of (by kernel_rfl))
                obtain rfl : v26 = .bool false := r26
                refine .inl ⟨((Rg.wanted_some (t := 26) rfl (by kernel_rfl) e26).trans rfl), fun K hK => ?_⟩
                go_simp
                exact hK _ _ (Below.refl _ _) (fun t ht => by injection ht with ht; subst ht; exact rfl)
              refine Rg.good_cons ?_ ?_
              · intro ac w' cx hn
                have e0 := cx.at_ 0 (by kernel_rfl) rfl
                obtain ⟨v29, e29, r29⟩ := hn 29 (Rg.mem_of (by kernel_rfl))
                obtain rfl : v29 = .bool true := r29
                refine .inl ⟨((Rg.wanted_some (t := 29) rfl (by kernel_rfl) e29).trans rfl), fun K hK => ?_⟩
                go_simp
                exact hK _ _ (Below.refl _ _) (fun t ht => by injection ht with ht; subst ht; exact rfl)
              refine Rg.good_cons ?_ ?_
              · intro ac w' cx hn
                have e3 := cx.at_ 3 (by kernel_rfl) rfl
                obtain ⟨v29, e29, r29⟩ := hn 29 (Rg.mem_of (by kernel_rfl))
                obtain rfl : v29 = .bool true := r29
                refine .inl ⟨((Rg.wanted_some (t := 29) rfl (by kernel_rfl) e29).trans rfl), fun K hK => ?_⟩
                go_simp
                exact hK _ _ (Below.refl _ _) (fun t ht => by injection ht with ht; subst ht; exact rfl)
              refine Rg.good_cons ?_ ?_
              · intro ac w' cx hn
                obtain ⟨v30, e30, r30⟩ := hn 30 (Rg.mem_of (by kernel_rfl))
                obtain rfl : v30 = .slice (some ⟨b, o, none⟩) n cp := r30
                obtain ⟨v31, e31, r31⟩ := hn 31 (Rg.mem_of (by kernel_rfl))
                obtain rfl : v31 = .int .i64 (k : Int) := r31
                obtain ⟨v29, e29, r29⟩ := hn 29 (Rg.mem_of (by kernel_rfl))
                obtain rfl : v29 = .bool true := r29
                refine .inl ⟨((Rg.wanted_some (t := 29) rfl (by kernel_rfl) e29).trans rfl), fun K hK => ?_⟩
                have hkn : k < n := HLT.out
                go_simp
                exact hK _ _ (Below.refl _ _) (fun t ht => by injection ht with ht; subst ht; exact rfl)
              refine Rg.good_cons ?_ ?_
              · intro ac w' cx hn
                obtain ⟨v32, e32, r32⟩ := hn 32 (Rg.mem_of (by kernel_rfl))
                obtain rfl : v32 = .pointer (some ⟨b, o + k * 9, none⟩) := r32
                obtain ⟨v29, e29, r29⟩ := hn 29 (Rg.mem_of (by kernel_rfl))
                obtain rfl : v29 = .bool true := r29
                refine .inl ⟨((Rg.wanted_some (t := 29) rfl (by kernel_rfl) e29).trans rfl), fun K hK => ?_⟩
                go_simp
                exact hK _ _ (Below.refl _ _) (fun t ht => by injection ht with ht; subst ht; exact rfl)
              refine Rg.good_cons ?_ ?_
              · intro ac w' cx hn
                obtain ⟨v33, e33, r33⟩ := hn 33 (Rg.mem_of (by kernel_rfl))
                obtain rfl : v33 = .pointer (some ⟨b, o + k * 9, none⟩) := r33
                obtain ⟨v29, e29, r29⟩ := hn 29 (Rg.mem_of (by kernel_rfl))
                obtain rfl : v29 = .bool true := r29
                refine .inl ⟨((Rg.wanted_some (t := 29) rfl (by kernel_rfl) e29).trans rfl), fun K hK => ?_⟩
                have a0' := (cx.bel.cell (block_lt_of_cell a0)).trans a0
                go_simp
                exact hK _ _ (Below.refl _ _) (fun t ht => by injection ht with ht; subst ht; exact rfl)
              refine Rg.good_cons ?_ ?_
              · intro ac w' cx hn
                have e0 := cx.at_ 0 (by kernel_rfl) rfl
                obtain ⟨v29, e29, r29⟩ := hn 29 (Rg.mem_of (by kernel_rfl))
                obtain rfl : v29 = .bool true := r29
                refine .inl ⟨((Rg.wanted_some (t := 29) rfl (by kernel_rfl) e29).trans rfl), fun K hK => ?_⟩
                go_simp
                exact hK _ _ (Below.refl _ _) (fun t ht => by injection ht with ht; subst ht; exact rfl)
              refine Rg.good_cons ?_ ?_
              · intro ac w' cx hn
                have e3 := cx.at_ 3 (by kernel_rfl) rfl
                obtain ⟨v29, e29, r29⟩ := hn 29 (Rg.mem_of (by kernel_rfl))
                obtain rfl : v29 = .bool true := r29
                refine .inl ⟨((Rg.wanted_some (t := 29) rfl (by kernel_rfl) e29).trans rfl), fun K hK => ?_⟩
                go_simp
                exact hK _ _ (Below.refl _ _) (fun t ht => by injection ht with ht; subst ht; exact rfl)
              refine Rg.good_cons ?_ ?_
              · intro ac w' cx hn
                obtain ⟨v36, e36, r36⟩ := hn 36 (Rg.mem_of (by kernel_rfl))
                obtain rfl : v36 = .int .i64 (k : Int) := r36
                obtain ⟨v29, e29, r29⟩ := hn 29 (Rg.mem_of (by kernel_rfl))
                obtain rfl : v29 = .bool true := r29
                refine .inl ⟨((Rg.wanted_some (t := 29) rfl (by kernel_rfl) e29).trans rfl), fun K hK => ?_⟩
                have hj := HJ.out
                subst hj
                go_simp
                rw [HWJ.out]
                exact hK _ _ (Below.refl _ _) (fun t ht => by injection ht with ht; subst ht; exact rfl)
              refine Rg.good_cons ?_ ?_
              · intro ac w' cx hn
                obtain ⟨v35, e35, r35⟩ := hn 35 (Rg.mem_of (by kernel_rfl))
                obtain rfl : v35 = .slice (some ⟨b, o, none⟩) n cp := r35
                obtain ⟨v37, e37, r37⟩ := hn 37 (Rg.mem_of (by kernel_rfl))
                obtain rfl : v37 = .int .i64 (j : Int) := r37
                obtain ⟨v29, e29, r29⟩ := hn 29 (Rg.mem_of (by kernel_rfl))
                obtain rfl : v29 = .bool true := r29
                refine .inl ⟨((Rg.wanted_some (t := 29) rfl (by kernel_rfl) e29).trans rfl), fun K hK => ?_⟩
                have hjn : j < n := by have := HLT.out; have := HJ.out; omega
                go_simp
                exact hK _ _ (Below.refl _ _) (fun t ht => by injection ht with ht; subst ht; exact rfl)
              refine Rg.good_cons ?_ ?_
              · intro ac w' cx hn
                obtain ⟨v38, e38, r38⟩ := hn 38 (Rg.mem_of (by kernel_rfl))
                obtain rfl : v38 = .pointer (some ⟨b, o + j * 9, none⟩) := r38
                obtain ⟨v29, e29, r29⟩ := hn 29 (Rg.mem_of (by kernel_rfl))
                obtain rfl : v29 = .bool true := r29
                refine .inl ⟨((Rg.wanted_some (t := 29) rfl (by kernel_rfl) e29).trans rfl), fun K hK => ?_⟩
                go_simp
                exact hK _ _ (Below.refl _ _) (fun t ht => by injection ht with ht; subst ht; exact rfl)
              refine Rg.good_cons ?_ ?_
              · intro ac w' cx hn
                obtain ⟨v39, e39, r39⟩ := hn 39 (Rg.mem_of (by kernel_rfl))
                obtain rfl : v39 = .pointer (some ⟨b, o + j * 9, none⟩) := r39
                obtain ⟨v29, e29, r29⟩ := hn 29 (Rg.mem_of (by kernel_rfl))
                obtain rfl : v29 = .bool true := r29
                refine .inl ⟨((Rg.wanted_some (t := 29) rfl (by kernel_rfl) e29).trans rfl), fun K hK => ?_⟩
                have b0' := (cx.bel.cell (block_lt_of_cell b0)).trans b0
                go_simp
                exact hK _ _ (Below.refl _ _) (fun t ht => by injection ht with ht; subst ht; exact rfl)
              refine Rg.good_cons ?_ ?_
              · intro ac w' cx hn
                obtain ⟨v34, e34, r34⟩ := hn 34 (Rg.mem_of (by kernel_rfl))
                obtain rfl : v34 = .int .i64 s.t := r34
                obtain ⟨v40, e40, r40⟩ := hn 40 (Rg.mem_of (by kernel_rfl))
                obtain rfl : v40 = .int .i64 p.t := r40
                obtain ⟨v29, e29, r29⟩ := hn 29 (Rg.mem_of (by kernel_rfl))
                obtain rfl : v29 = .bool true := r29
                refine .inl ⟨((Rg.wanted_some (t := 29) rfl (by kernel_rfl) e29).trans rfl), fun K hK => ?_⟩
                go_simp
                rw [HZB.out]
                exact hK _ _ (Below.refl _ _) (fun t ht => by injection ht with ht; subst ht; exact rfl)
              refine Rg.good_cons ?_ ?_
              · intro ac w' cx hn
                obtain ⟨v29, e29, r29⟩ := hn 29 (Rg.mem_of (by kernel_rfl))
                obtain rfl : v29 = .bool true := r29
                obtain ⟨v41, e41, r41⟩ := hn 41 (Rg.mem_of (by kernel_rfl))
                obtain rfl : v41 = .bool zb := r41
                obtain ⟨v26, e26, r26⟩ := hn 26 (Rg.mem_of (by kernel_rfl))
                obtain rfl : v26 = .bool false := r26
                refine .inl ⟨((Rg.wanted_some (t := 26) rfl (by kernel_rfl) e26).trans rfl), fun K hK => ?_⟩
                go_simp
                exact hK _ _ (Below.refl _ _) (fun t ht => by injection ht with ht; subst ht; exact rfl)
              refine Rg.good_cons ?_ ?_
              · intro ac w' cx hn
                obtain ⟨v26, e26, r26⟩ := hn 26 (Rg.mem_of (by kernel_rfl))
                obtain rfl : v26 = .bool false := r26
                obtain ⟨v42, e42, r42⟩ := hn 42 (Rg.mem_of (by kernel_rfl))
                obtain rfl : v42 = .bool zb := r42
                refine .inl ⟨(Rg.wanted_none rfl), fun K hK => ?_⟩
                go_simp
                exact hK _ _ (Below.refl _ _) (fun t ht => by injection ht with ht; subst ht; exact rfl)
              exact Rg.good_nil
            case done =>
              intro u w3 hb3 hr
              have e43 : u 43 = .bool zb := hr 43 (by simp)
              simp only [Rg.fillL_cons, Rg.fillL_nil, if_true, if_false, Bool.false_eq_true, e43]
              have HB3 := Lib.hid (HB.out.trans (hb3.mono HB.out.size))
              clear hr hb3 e43 a0 a1 a2 a3 a4 a5 a6 a7 a8
              clear b0
              cases zb with
              | true =>
                have HY := Lib.hid (ris_no (l := l) (k := k) (by have := HN.out; have := HLT.out; omega) (fun ho => by have := (ho s HS.out).2 p HK0.out (by rw [HJ.out]; exact HPP.out); have := of_decide_eq_true HZB.out; omega))
                go_wp2_with fail
                go_ret
                exact ⟨ret_boolE HY.out.symm, HB3.out⟩
              | false =>
                have HF2 := Lib.hid (show k + 1 ≤ n ∧ ∀ j, j < k + 1 → OkAt l j from ⟨HLT.out, fun i hi => by
                  by_cases e : i = k
                  · subst e
                    intro x hx
                    rw [HS.out] at hx
                    injection hx with hx
                    subst hx
                    refine ⟨HR.out, fun q _ hq => ?_⟩
                    rw [HJ.out] at hq
                    rw [show j + 1 - 1 = j by omega, HPP.out] at hq
                    injection hq with hq
                    subst hq
                    have := of_decide_eq_false HZB.out
                    omega
                  · exact HF.out.2 i (by omega)⟩)
                go_wp2_with fail
                go_roundw
                case rel => exact ⟨k + 1, by go_num, HF2, HB3⟩
                case measure => simp [intOf]; have := HLT.out; omega
    · have hki : ¬ (k : Int) < (n : Int) := by omega
      have HY := Lib.hid (show risB l = true from risB_true.2 ((ris_iff l).2 (fun i hi => HF.out.2 i (by have := HN.out; omega))))
      go_wp2_with fail
      go_ret
      exact ⟨ret_boolE HY.out.symm, HB.out⟩
end Go.Proofs.YtjnienlidmmhdaaGreatDoor.En
