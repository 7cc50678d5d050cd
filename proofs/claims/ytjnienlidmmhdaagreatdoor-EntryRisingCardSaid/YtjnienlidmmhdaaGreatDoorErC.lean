/- rise and Rising, of both. -/
import Derived.Test.YtjnienlidmmhdaaGreatDoorErB
namespace Go.Proofs.YtjnienlidmmhdaaGreatDoor.En
open Go.RowKit Go.Sort
set_option linter.unusedVariables false

theorem UpTo.snoc {l : List SV} {j : Nat} (h : UpTo l (j + 1)) {p s : SV} (hp : l[j]? = some p) (hs : l[j + 1]? = some s) (hlt : p.t < s.t) : UpTo l (j + 2) := fun i a b hi ha hb => by
  by_cases e : i = j
  · subst e
    rw [hp] at ha
    rw [hs] at hb
    injection ha with ha
    injection hb with hb
    rw [← ha, ← hb]; exact hlt
  · exact h i a b (by omega) ha hb
theorem upB_no {l : List SV} {j : Nat} {p s : SV} (hp : l[j]? = some p) (hs : l[j + 1]? = some s) (hn : ¬ p.t < s.t) : upB l = false := by
  cases h : upB l with
  | false => rfl
  | true => exact absurd ((upB_true.1 h) j p s (List.getElem?_eq_some_iff.1 hs).1 hp hs) hn
set_option maxHeartbeats 2000000 in
set_option maxRecDepth 100000 in
theorem rise_any (D : Option Addr) (n cp : Nat) (l : List SV) (w : World) (hn : n = l.length) (hn1 : (n : Int) ≤ 70368744177664) (h : Sm w D l) :
    Calls Tryz.prog 101 #[.slice D n cp, .func (.func 102) #[] #[]] w fun e w' => e = .returned (.bool (upB l)) ∧ Below w.heap.size w w' := by
  have HN := Lib.hid hn
  have HH := Lib.hid h
  clear hn h
  go_enter Tryz.func101, Tryz.ntmps101
  go_wp2_with fail
  go_loopw [5] (fun i wr => ∃ j : Nat, i = .int .i64 ((j : Int) + 1) ∧ Hid (j ≤ n ∧ UpTo l (j + 1)) ∧ Hid (Below w.heap.size w wr)) (fun i _ => n + 1 - (intOf i).toNat)
  case atStart => exact ⟨0, rfl, Lib.hid ⟨Nat.zero_le _, fun i p s hi => absurd hi (by omega)⟩, Lib.hid (Below.refl _ _)⟩
  case round =>
    obtain ⟨j, rfl, HF, HB⟩ := hrel
    by_cases hlt : j + 1 < n
    · have hki : (j : Int) + 1 < (n : Int) := by omega
      obtain ⟨p, hp⟩ : ∃ p, l[j]? = some p := ⟨_, List.getElem?_eq_getElem (by have := HN.out; omega)⟩
      obtain ⟨s, hs⟩ : ∃ s, l[j + 1]? = some s := ⟨_, List.getElem?_eq_getElem (by have := HN.out; omega)⟩
      obtain ⟨b, o, rfl, hat⟩ := HH.out.at_ hp
      obtain ⟨b', o', e', hat2⟩ := HH.out.at_ hs
      injection e' with e'
      injection e' with e1 e2 _
      subst e1 e2
      obtain ⟨A, B, c, d, ⟨a0, a1, a2, a3, a4, a5, a6, a7, a8⟩, _⟩ := (hat.below HB.out).cells
      obtain ⟨A', B', c', d', ⟨b0, b1, b2, b3, b4, b5, b6, b7, b8⟩, _⟩ := (hat2.below HB.out).cells
      have HP := Lib.hid (And.intro hp hs)
      have HLT := Lib.hid hlt
      have HWJ := Lib.hid (show IntKind.i64.wrap (j : Int) = (j : Int) by rw [IntWalk.i64_left]; exact IntWalk.wrap64_in _ ⟨by omega, by omega⟩)
      obtain ⟨zb, hzb⟩ : ∃ zb, decide (s.t ≤ p.t) = zb := ⟨_, rfl⟩
      have HZ := Lib.hid hzb
      clear hat hat2 hp hs
      go_wp2_with fail
      refine Rg.wp_region_inv (R := fun sl v w => match sl with
          | 12 => v = .func (.func 102) #[] #[]
          | 13 => v = .slice (some ⟨b, o, none⟩) n cp
          | 14 => v = .int .i64 ((j : Int) + 1)
          | 15 => v = .pointer (some ⟨b, o + (j + 1) * 9, none⟩)
          | 16 => v = .agg #[.int .i64 s.t, .int .i64 s.h.k, .int .i64 s.h.s, .int .i64 s.h.z, .int .u64 s.h.zc, .int .u64 s.h.ct, .int .i64 s.h.sm, .slice A' s.h.P.length c', .slice B' s.h.Q.length d']
          | 17 => v = .int .i64 s.t
          | 18 => v = .func (.func 102) #[] #[]
          | 19 => v = .slice (some ⟨b, o, none⟩) n cp
          | 20 => v = .int .i64 ((j : Int) + 1)
          | 21 => v = .int .i64 (j : Int)
          | 22 => v = .pointer (some ⟨b, o + j * 9, none⟩)
          | 23 => v = .agg #[.int .i64 p.t, .int .i64 p.h.k, .int .i64 p.h.s, .int .i64 p.h.z, .int .u64 p.h.zc, .int .u64 p.h.ct, .int .i64 p.h.sm, .slice A p.h.P.length c, .slice B p.h.Q.length d]
          | 24 => v = .int .i64 p.t
          | 25 => v = .bool zb
          | _ => True) [12, 13, 14, 15, 16, 17, 18, 19, 20, 21, 22, 23, 24, 25] 26 [false, false, false, false, false, false, false, false, false, false, false, false, true, true, true, true, true, true, true, true, true, true, true, true, true, true] (by kernel_rfl) rfl (by kernel_rfl) (by kernel_rfl) (by kernel_rfl) (by kernel_rfl) (by kernel_rfl) ?mono ?good ?done
      case mono =>
        refine List.forall_mem_cons.2 ⟨fun _ _ _ _ _ h => h, ?_⟩
        refine List.forall_mem_cons.2 ⟨fun _ _ _ _ _ h => h, ?_⟩
        refine List.forall_mem_cons.2 ⟨fun _ _ _ _ _ h => h, ?_⟩
        refine List.forall_mem_cons.2 ⟨fun _ _ _ _ _ h => h, ?_⟩
        refine List.forall_mem_cons.2 ⟨fun _ _ _ _ _ h => h, ?_⟩
        refine List.forall_mem_cons.2 ⟨fun _ _ _ _ _ h => h, ?_⟩
        refine List.forall_mem_cons.2 ⟨fun _ _ _ _ _ h => h, ?_⟩
        refine List.forall_mem_cons.2 ⟨fun _ _ _ _ _ h => h, ?_⟩
        refine List.forall_mem_cons.2 ⟨fun _ _ _ _ _ h => h, ?_⟩
        refine List.forall_mem_cons.2 ⟨fun _ _ _ _ _ h => h, ?_⟩
        refine List.forall_mem_cons.2 ⟨fun _ _ _ _ _ h => h, ?_⟩
        refine List.forall_mem_cons.2 ⟨fun _ _ _ _ _ h => h, ?_⟩
        refine List.forall_mem_cons.2 ⟨fun _ _ _ _ _ h => h, ?_⟩
        refine List.forall_mem_cons.2 ⟨fun _ _ _ _ _ h => h, ?_⟩
        exact fun _ h => absurd h (by simp)
      case good =>
        refine Rg.good_cons ?_ ?_
        · intro ac w' cx hn
          have e1 := cx.at_ 1 (by kernel_rfl) rfl
          refine .inl ⟨(Rg.wanted_none rfl), fun K hK => ?_⟩
          go_simp
          exact hK _ _ (Below.refl _ _) (fun t ht => by injection ht with ht; subst ht; exact rfl)
        refine Rg.good_cons ?_ ?_
        · intro ac w' cx hn
          have e0 := cx.at_ 0 (by kernel_rfl) rfl
          refine .inl ⟨(Rg.wanted_none rfl), fun K hK => ?_⟩
          go_simp
          exact hK _ _ (Below.refl _ _) (fun t ht => by injection ht with ht; subst ht; exact rfl)
        refine Rg.good_cons ?_ ?_
        · intro ac w' cx hn
          have e5 := cx.at_ 5 (by kernel_rfl) rfl
          refine .inl ⟨(Rg.wanted_none rfl), fun K hK => ?_⟩
          go_simp
          exact hK _ _ (Below.refl _ _) (fun t ht => by injection ht with ht; subst ht; exact rfl)
        refine Rg.good_cons ?_ ?_
        · intro ac w' cx hn
          obtain ⟨v13, e13, r13⟩ := hn 13 (Rg.mem_of (by kernel_rfl))
          obtain rfl : v13 = .slice (some ⟨b, o, none⟩) n cp := r13
          obtain ⟨v14, e14, r14⟩ := hn 14 (Rg.mem_of (by kernel_rfl))
          obtain rfl : v14 = .int .i64 ((j : Int) + 1) := r14
          refine .inl ⟨(Rg.wanted_none rfl), fun K hK => ?_⟩
          go_simp
          exact hK _ _ (Below.refl _ _) (fun t ht => by injection ht with ht; subst ht; exact rfl)
        refine Rg.good_cons ?_ ?_
        · intro ac w' cx hn
          obtain ⟨v15, e15, r15⟩ := hn 15 (Rg.mem_of (by kernel_rfl))
          obtain rfl : v15 = .pointer (some ⟨b, o + (j + 1) * 9, none⟩) := r15
          refine .inl ⟨(Rg.wanted_none rfl), fun K hK => ?_⟩
          have b0' := (cx.bel.cell (block_lt_of_cell b0)).trans b0
          have b1' := (cx.bel.cell (block_lt_of_cell b1)).trans b1
          have b2' := (cx.bel.cell (block_lt_of_cell b2)).trans b2
          have b3' := (cx.bel.cell (block_lt_of_cell b3)).trans b3
          have b4' := (cx.bel.cell (block_lt_of_cell b4)).trans b4
          have b5' := (cx.bel.cell (block_lt_of_cell b5)).trans b5
          have b6' := (cx.bel.cell (block_lt_of_cell b6)).trans b6
          have b7' := (cx.bel.cell (block_lt_of_cell b7)).trans b7
          have b8' := (cx.bel.cell (block_lt_of_cell b8)).trans b8
          go_simp
          exact hK _ _ (Below.refl _ _) (fun t ht => by injection ht with ht; subst ht; exact rfl)
        refine Rg.good_cons ?_ ?_
        · intro ac w' cx hn
          obtain ⟨v12, e12, r12⟩ := hn 12 (Rg.mem_of (by kernel_rfl))
          obtain rfl : v12 = .func (.func 102) #[] #[] := r12
          obtain ⟨v16, e16, r16⟩ := hn 16 (Rg.mem_of (by kernel_rfl))
          obtain rfl : v16 = .agg #[.int .i64 s.t, .int .i64 s.h.k, .int .i64 s.h.s, .int .i64 s.h.z, .int .u64 s.h.zc, .int .u64 s.h.ct, .int .i64 s.h.sm, .slice A' s.h.P.length c', .slice B' s.h.Q.length d'] := r16
          refine .inl ⟨(Rg.wanted_none rfl), fun K hK => ?_⟩
          go_simp
          refine (time1_any s A' B' c' d' w').mono ?_
          rintro y w5 ⟨rfl, hb5⟩
          exact hK _ _ hb5 (fun t ht => by injection ht with ht; subst ht; exact rfl)
        refine Rg.good_cons ?_ ?_
        · intro ac w' cx hn
          have e1 := cx.at_ 1 (by kernel_rfl) rfl
          refine .inl ⟨(Rg.wanted_none rfl), fun K hK => ?_⟩
          go_simp
          exact hK _ _ (Below.refl _ _) (fun t ht => by injection ht with ht; subst ht; exact rfl)
        refine Rg.good_cons ?_ ?_
        · intro ac w' cx hn
          have e0 := cx.at_ 0 (by kernel_rfl) rfl
          refine .inl ⟨(Rg.wanted_none rfl), fun K hK => ?_⟩
          go_simp
          exact hK _ _ (Below.refl _ _) (fun t ht => by injection ht with ht; subst ht; exact rfl)
        refine Rg.good_cons ?_ ?_
        · intro ac w' cx hn
          have e5 := cx.at_ 5 (by kernel_rfl) rfl
          refine .inl ⟨(Rg.wanted_none rfl), fun K hK => ?_⟩
          go_simp
          exact hK _ _ (Below.refl _ _) (fun t ht => by injection ht with ht; subst ht; exact rfl)
        refine Rg.good_cons ?_ ?_
        · intro ac w' cx hn
          obtain ⟨v20, e20, r20⟩ := hn 20 (Rg.mem_of (by kernel_rfl))
          obtain rfl : v20 = .int .i64 ((j : Int) + 1) := r20
          refine .inl ⟨(Rg.wanted_none rfl), fun K hK => ?_⟩
          go_simp
          rw [HWJ.out]
          exact hK _ _ (Below.refl _ _) (fun t ht => by injection ht with ht; subst ht; exact rfl)
        refine Rg.good_cons ?_ ?_
        · intro ac w' cx hn
          obtain ⟨v19, e19, r19⟩ := hn 19 (Rg.mem_of (by kernel_rfl))
          obtain rfl : v19 = .slice (some ⟨b, o, none⟩) n cp := r19
          obtain ⟨v21, e21, r21⟩ := hn 21 (Rg.mem_of (by kernel_rfl))
          obtain rfl : v21 = .int .i64 (j : Int) := r21
          refine .inl ⟨(Rg.wanted_none rfl), fun K hK => ?_⟩
          have hjn : j < n := by have := HLT.out; omega
          go_simp
          exact hK _ _ (Below.refl _ _) (fun t ht => by injection ht with ht; subst ht; exact rfl)
        refine Rg.good_cons ?_ ?_
        · intro ac w' cx hn
          obtain ⟨v22, e22, r22⟩ := hn 22 (Rg.mem_of (by kernel_rfl))
          obtain rfl : v22 = .pointer (some ⟨b, o + j * 9, none⟩) := r22
          refine .inl ⟨(Rg.wanted_none rfl), fun K hK => ?_⟩
          have a0' := (cx.bel.cell (block_lt_of_cell a0)).trans a0
          have a1' := (cx.bel.cell (block_lt_of_cell a1)).trans a1
          have a2' := (cx.bel.cell (block_lt_of_cell a2)).trans a2
          have a3' := (cx.bel.cell (block_lt_of_cell a3)).trans a3
          have a4' := (cx.bel.cell (block_lt_of_cell a4)).trans a4
          have a5' := (cx.bel.cell (block_lt_of_cell a5)).trans a5
          have a6' := (cx.bel.cell (block_lt_of_cell a6)).trans a6
          have a7' := (cx.bel.cell (block_lt_of_cell a7)).trans a7
          have a8' := (cx.bel.cell (block_lt_of_cell a8)).trans a8
          go_simp
          exact hK _ _ (Below.refl _ _) (fun t ht => by injection ht with ht; subst ht; exact rfl)
        refine Rg.good_cons ?_ ?_
        · intro ac w' cx hn
          obtain ⟨v18, e18, r18⟩ := hn 18 (Rg.mem_of (by kernel_rfl))
          obtain rfl : v18 = .func (.func 102) #[] #[] := r18
          obtain ⟨v23, e23, r23⟩ := hn 23 (Rg.mem_of (by kernel_rfl))
          obtain rfl : v23 = .agg #[.int .i64 p.t, .int .i64 p.h.k, .int .i64 p.h.s, .int .i64 p.h.z, .int .u64 p.h.zc, .int .u64 p.h.ct, .int .i64 p.h.sm, .slice A p.h.P.length c, .slice B p.h.Q.length d] := r23
          refine .inl ⟨(Rg.wanted_none rfl), fun K hK => ?_⟩
          go_simp
          refine (time1_any p A B c d w').mono ?_
          rintro y w5 ⟨rfl, hb5⟩
          exact hK _ _ hb5 (fun t ht => by injection ht with ht; subst ht; exact rfl)
        refine Rg.good_cons ?_ ?_
        · intro ac w' cx hn
          obtain ⟨v17, e17, r17⟩ := hn 17 (Rg.mem_of (by kernel_rfl))
          obtain rfl : v17 = .int .i64 s.t := r17
          obtain ⟨v24, e24, r24⟩ := hn 24 (Rg.mem_of (by kernel_rfl))
          obtain rfl : v24 = .int .i64 p.t := r24
          refine .inl ⟨(Rg.wanted_none rfl), fun K hK => ?_⟩
          go_simp
          exact hK _ _ (Below.refl _ _) (fun t ht => by injection ht with ht; subst ht; exact rfl)
        exact Rg.good_nil
      case done =>
        intro u w3 hb3 hr
        have e25 : u 25 = .bool zb := hr 25 (by simp)
        simp only [Rg.fillL_cons, Rg.fillL_nil, if_true, if_false, Bool.false_eq_true, e25]
        have HB3 := Lib.hid (HB.out.trans (hb3.mono HB.out.size))
        clear hr hb3 e25 a0 a1 a2 a3 a4 a5 a6 a7 a8 b0 b1 b2 b3 b4 b5 b6 b7 b8
        cases zb with
        | true =>
          have HY := Lib.hid (upB_no HP.out.1 HP.out.2 (by have := of_decide_eq_true HZ.out; omega))
          go_wp2_with fail
          go_ret
          exact ⟨ret_boolE HY.out.symm, HB3.out⟩
        | false =>
          have HF2 := Lib.hid (show j + 1 ≤ n ∧ UpTo l (j + 1 + 1) from ⟨by have := HLT.out; omega, HF.out.2.snoc HP.out.1 HP.out.2 (by have := of_decide_eq_false HZ.out; omega)⟩)
          go_wp2_with fail
          go_roundw
          case rel => exact ⟨j + 1, by go_num, HF2, HB3⟩
          case measure => simp [intOf]; have := HLT.out; omega
    · have hki : ¬ (j : Int) + 1 < (n : Int) := by omega
      have HY := Lib.hid (show upB l = true from upB_true.2 (HF.out.2.mono (by have := HN.out; omega)))
      go_wp2_with fail
      go_ret
      exact ⟨ret_boolE HY.out.symm, HB.out⟩
set_option maxHeartbeats 1000000 in
set_option maxRecDepth 100000 in
theorem rising_any (D : Option Addr) (n cp : Nat) (l : List SV) (w : World) (hn : n = l.length) (hn1 : (n : Int) ≤ 70368744177664) (h : Sm w D l) :
    Calls Tryz.prog 44 #[.slice D n cp] w fun e w' => e = .returned (.bool (risB l)) ∧ Below w.heap.size w w' := by
  have HA := Lib.hid (alls_any D n cp l w hn hn1 h)
  have HR := Lib.hid (fun (W : World) (hb : Below w.heap.size w W) => rise_any D n cp l W hn hn1 (h.below hb))
  have HE := Lib.hid (risB_and l)
  clear hn h
  rw [HE.out]
  go_enter Tryz.func44, Tryz.ntmps44
  go_wp2_with fail
  refine HA.out.mono ?_
  rintro e w2 ⟨rfl, hb2⟩
  have HB2 := Lib.hid hb2
  have HR2 := Lib.hid (HR.out w2 hb2)
  clear hb2 HR
  rcases ha : l.all rightS with _ | _
  · go_wp2_with fail
    go_ret
    exact ⟨ret_boolE (by rw [ha]; rfl), HB2.out⟩
  · go_wp2_with fail
    refine HR2.out.mono ?_
    rintro e w3 ⟨rfl, hb3⟩
    have HB3 := Lib.hid (HB2.out.trans (hb3.mono HB2.out.size))
    clear hb3
    go_wp2_with fail
    go_ret
    exact ⟨ret_boolE (by rw [ha, Bool.true_and]), HB3.out⟩
end Go.Proofs.YtjnienlidmmhdaaGreatDoor.En
