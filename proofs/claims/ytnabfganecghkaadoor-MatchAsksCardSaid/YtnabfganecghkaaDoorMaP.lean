/- The document's Print of matchers. -/
import Derived.Test.YtnabfganecghkaaDoorMaY
import Derived.Test.YtnabfganecghkaaDoorRgI
namespace Go.Proofs.YtnabfganecghkaaDoor
open Go.RowKit Go.Sort
set_option linter.unusedVariables false
theorem prep_parts {m : Mt} (h0 : 0 ≤ m.op ∧ m.op < 4) (h : prepE m = 0) : Lb.nameB m.nm = true ∧ m.vl.size ≤ 64 := by
  unfold prepE at h
  rw [if_neg (by omega)] at h
  by_cases h1 : Lb.nameB m.nm = false ∨ 64 < m.vl.size
  · rw [if_pos h1] at h; cases h
  · refine ⟨?_, by omega⟩
    cases hn : Lb.nameB m.nm with
    | true => rfl
    | false => exact absurd (.inl hn) h1
/-- a row of the four signs, made in the region -/
def Row4 (v : Value) (w : World) : Prop := ∃ g, v = .slice (some ⟨g, 0, none⟩) 4 4 ∧ w.heap[g]? = some (.cells #[.string ⟨#[61]⟩, .string ⟨#[33, 61]⟩, .string ⟨#[61, 126]⟩, .string ⟨#[33, 126]⟩] 9 (0, 0))
theorem Row4.below {v : Value} {w w' : World} (h : Row4 v w) (hb : Below w.heap.size w w') : Row4 v w' := by
  obtain ⟨g, h1, h2⟩ := h
  exact ⟨g, h1, (hb.block g (Array.getElem?_eq_some_iff.1 h2).1).trans h2⟩
theorem Row4.cells {g : Nat} {w : World} (h2 : w.heap[g]? = some (.cells #[.string ⟨#[61]⟩, .string ⟨#[33, 61]⟩, .string ⟨#[61, 126]⟩, .string ⟨#[33, 126]⟩] 9 (0, 0))) : w.cell? ⟨g, 0, none⟩ = some (.string ⟨#[61]⟩) ∧ w.cell? ⟨g, 1, none⟩ = some (.string ⟨#[33, 61]⟩) ∧ w.cell? ⟨g, 2, none⟩ = some (.string ⟨#[61, 126]⟩) ∧ w.cell? ⟨g, 3, none⟩ = some (.string ⟨#[33, 126]⟩) := by
  refine ⟨?_, ?_, ?_, ?_⟩ <;> (rw [cell_of_row _ _ _ _ _ _ h2]; rfl)
/-- where one of the signs lies -/
def SgAt (S : ByteArray) (v : Value) (w : World) : Prop := ∃ g j, v = .pointer (some ⟨g, j, none⟩) ∧ w.cell? ⟨g, j, none⟩ = some (.string S)
theorem SgAt.below {S : ByteArray} {v : Value} {w w' : World} (h : SgAt S v w) (hb : Below w.heap.size w w') : SgAt S v w' := by
  obtain ⟨g, j, h1, h2⟩ := h
  exact ⟨g, j, h1, cell_below h2 hb⟩
def PrR (w : World) (ms : List Mt) (v3 v4 : Value) (wr : World) : Prop := ∃ (k : Nat) (T : ByteArray), v3 = .string T ∧ v4 = .int .i64 (k : Int) ∧ k ≤ ms.length ∧ T = Lb.tx (123 :: prT (ms.take k)) ∧ Below w.heap.size w wr
theorem rquote_is (s : ByteArray) (w : World) (hs : s.size ≤ 4000) (Q : ByteArray) (h : Lb.tx (Lb.quoteL s.data.toList) = Q) : Calls Tryd.prog 25 #[.string s] w fun e w' => e = .returned (.string Q) ∧ w = w' := h ▸ Lb.rquote_any s w hs
set_option maxHeartbeats 8000000 in
set_option maxRecDepth 100000 in
theorem rprint_any (A : Option Addr) (n c : Nat) (ms : List Mt) (w : World) (hn : n = ms.length) (h : Mq w A ms) (h16 : ms.length ≤ 16) (hop : ∀ m ∈ ms, 0 ≤ m.op ∧ m.op < 4) (hv : ∀ m ∈ ms, m.vl.size ≤ 1000) (hl : (prT ms).length ≤ 100000) :
    Calls Tryd.prog 13 #[.slice A n c] w fun e w' => e = .returned (.string (Lb.tx (printF ms))) ∧ Below w.heap.size w w' := by
  subst hn
  obtain ⟨N, hN⟩ : ∃ N, ms.length = N := ⟨_, rfl⟩
  have HN := Lib.hid hN
  have HM := Lib.hid h
  have HOP := Lib.hid hop
  have HV := Lib.hid hv
  have HL := Lib.hid hl
  rw [hN] at h16 ⊢
  have R0 := Lib.hid (show PrR w ms (.string ⟨#[123]⟩) (.int .i64 ((0 : Nat) : Int)) w from ⟨0, _, rfl, rfl, by omega, rfl, Below.refl _ _⟩)
  clear h hop hv hl hN
  go_enter Tryd.func13, Tryd.ntmps13
  go_wp2_with fail
  go_loopw [3, 4] (fun v3 v4 wr => Hid (PrR w ms v3 v4 wr)) (fun _ v4 _ => N - (intOf v4).toNat)
  case atStart => exact R0
  case round =>
    clear R0
    obtain ⟨k, T, rfl, rfl, hk, hT, hb⟩ := hrel.out
    clear hrel
    have HB := Lib.hid hb
    have HT := Lib.hid hT
    by_cases hlt : k < N
    · have hki : (k : Int) < (N : Int) := by omega
      have hk1 : k ≤ 16 := by omega
      obtain ⟨m, hm⟩ : ∃ m, ms[k]? = some m := ⟨_, List.getElem?_eq_getElem (by rw [HN.out]; exact hlt)⟩
      obtain ⟨b, off, rfl, hc⟩ := (HM.out.below HB.out).some_ (by rw [HN.out]; omega)
      obtain ⟨c0, c1, c2⟩ := hc k m hm
      have hopm := HOP.out m (List.mem_of_getElem? hm)
      have hvm := HV.out m (List.mem_of_getElem? hm)
      have HS := Lib.hid (prT_step hm)
      have hlen : (prT (ms.take (k + 1))).length ≤ 100000 := Nat.le_trans (prT_le ms (k + 1)) HL.out
      rw [HS.out] at hlen
      obtain ⟨nm, op, vl⟩ := m
      obtain ⟨Q, hQ⟩ : ∃ Q, Lb.tx (Lb.quoteL vl.data.toList) = Q := ⟨_, rfl⟩
      have HQ := Lib.hid (fun W => rquote_is vl W (by show vl.size ≤ 4000; have : vl.size ≤ 1000 := hvm; omega) Q hQ)
      obtain ⟨S, hS⟩ : ∃ S, signB op = S := ⟨_, rfl⟩
      obtain ⟨Sg, hSg⟩ : ∃ Sg, sgT op.toNat = Sg := ⟨_, rfl⟩
      have hop4 : (op = 0 ∧ S = ⟨#[61]⟩) ∨ (op = 1 ∧ S = ⟨#[33, 61]⟩) ∨ (op = 2 ∧ S = ⟨#[61, 126]⟩) ∨ (op = 3 ∧ S = ⟨#[33, 126]⟩) := by
        have o1 : 0 ≤ op := hopm.1
        have o2 : op < 4 := hopm.2
        rcases (show op = 0 ∨ op = 1 ∨ op = 2 ∨ op = 3 by omega) with rfl | rfl | rfl | rfl
        · exact .inl ⟨rfl, hS.symm⟩
        · exact .inr (.inl ⟨rfl, hS.symm⟩)
        · exact .inr (.inr (.inl ⟨rfl, hS.symm⟩))
        · exact .inr (.inr (.inr ⟨rfl, hS.symm⟩))
      have hSS : S = Lb.tx Sg := by
        rw [← hSg]
        rcases hop4 with ⟨rfl, rfl⟩ | ⟨rfl, rfl⟩ | ⟨rfl, rfl⟩ | ⟨rfl, rfl⟩ <;> rfl
      have hql : (123 :: prT (ms.take k)).length + nm.data.toList.length + Sg.length + (Lb.quoteL vl.data.toList).length ≤ 100010 := by
        by_cases h0 : k = 0
        · rw [if_pos h0] at hlen
          subst h0
          simp [oneT, hSg, prT] at hlen ⊢
          omega
        · rw [if_neg h0] at hlen
          simp [oneT, hSg] at hlen ⊢
          omega
      simp only at c0 c1 c2
      clear hc hm hopm hvm hb hT hk hS
      by_cases h0 : k = 0
      · skip
        obtain ⟨U2, hU2, hadd2⟩ := Lb.add_tx (s := T) (t := nm) (Y := nm.data.toList) HT.out (Lb.tx_of _).symm (by simp at hql ⊢; omega)
        obtain ⟨U3, hU3, hadd3⟩ := Lb.add_tx (s := U2) (t := S) (Y := Sg) hU2 hSS (by simp at hql ⊢; omega)
        obtain ⟨U4, hU4, hadd4⟩ := Lb.add_tx (s := U3) (t := Q) (Y := Lb.quoteL vl.data.toList) hU3 hQ.symm (by simp at hql ⊢; omega)
        have HU := Lib.hid (show U4 = Lb.tx (123 :: prT (ms.take (k + 1))) by rw [hU4, HS.out, if_pos h0]; rw [h0]; simp [oneT, prT, hSg])
        have hz2 : ¬ (0 : Int) < (k : Int) := by omega
        have HK := Lib.hid hlt
        clear hU2 hU3 hU4 hQ hql hlen h0 hSS hSg hlt hk1
        go_wp2_with fail
        refine Rg.wp_region_invG (R := fun sl v w => match sl with
            | 15 => v = .string T
            | 16 => v = .slice (some ⟨b, off, none⟩) N c
            | 17 => v = .int .i64 (k : Int)
            | 18 => v = .pointer (some ⟨b, off + k * 3, none⟩)
            | 19 => v = .pointer (some ⟨b, off + k * 3, none⟩)
            | 20 => v = .string nm
            | 21 => v = .string U2
            | 22 => Row4 v w
            | 23 => v = .slice (some ⟨b, off, none⟩) N c
            | 24 => v = .int .i64 (k : Int)
            | 25 => v = .pointer (some ⟨b, off + k * 3, none⟩)
            | 26 => v = .pointer (some ⟨b, off + k * 3 + 1, none⟩)
            | 27 => v = .int .i64 op
            | 28 => SgAt S v w
            | 29 => v = .string S
            | 30 => v = .string U3
            | 31 => v = .slice (some ⟨b, off, none⟩) N c
            | 32 => v = .int .i64 (k : Int)
            | 33 => v = .pointer (some ⟨b, off + k * 3, none⟩)
            | 34 => v = .pointer (some ⟨b, off + k * 3 + 2, none⟩)
            | 35 => v = .string vl
            | 36 => v = .string Q
            | 37 => v = .string U4
            | _ => True) (fun a w => True) 23 [15, 16, 17, 18, 19, 20, 21, 22, 23, 24, 25, 26, 27, 28, 29, 30, 31, 32, 33, 34, 35, 36, 37] 40 [false, false, false, false, false, false, false, false, false, false, false, false, false, false, false, true, true, true, true, true, true, true, true, true, true, true, true, true, true, true, true, true, true, true, true, true, true, true, false, false] (by kernel_rfl) rfl (by kernel_rfl) (by kernel_rfl) (by kernel_rfl) (by kernel_rfl) (Nat.le_of_ble_eq_true (by kernel_rfl)) (by kernel_rfl) (by kernel_rfl) ?mono ?g0 ?good ?done
        case mono =>
          refine List.forall_mem_cons.2 ⟨fun _ _ _ _ _ h => h, ?_⟩
          refine List.forall_mem_cons.2 ⟨fun _ _ _ _ _ h => h, ?_⟩
          refine List.forall_mem_cons.2 ⟨fun _ _ _ _ _ h => h, ?_⟩
          refine List.forall_mem_cons.2 ⟨fun _ _ _ _ _ h => h, ?_⟩
          refine List.forall_mem_cons.2 ⟨fun _ _ _ _ _ h => h, ?_⟩
          refine List.forall_mem_cons.2 ⟨fun _ _ _ _ _ h => h, ?_⟩
          refine List.forall_mem_cons.2 ⟨fun _ _ _ _ _ h => h, ?_⟩
          refine List.forall_mem_cons.2 ⟨fun _ _ _ _ hb h => Row4.below h hb, ?_⟩
          refine List.forall_mem_cons.2 ⟨fun _ _ _ _ _ h => h, ?_⟩
          refine List.forall_mem_cons.2 ⟨fun _ _ _ _ _ h => h, ?_⟩
          refine List.forall_mem_cons.2 ⟨fun _ _ _ _ _ h => h, ?_⟩
          refine List.forall_mem_cons.2 ⟨fun _ _ _ _ _ h => h, ?_⟩
          refine List.forall_mem_cons.2 ⟨fun _ _ _ _ _ h => h, ?_⟩
          refine List.forall_mem_cons.2 ⟨fun _ _ _ _ hb h => SgAt.below h hb, ?_⟩
          refine List.forall_mem_cons.2 ⟨fun _ _ _ _ _ h => h, ?_⟩
          refine List.forall_mem_cons.2 ⟨fun _ _ _ _ _ h => h, ?_⟩
          refine List.forall_mem_cons.2 ⟨fun _ _ _ _ _ h => h, ?_⟩
          refine List.forall_mem_cons.2 ⟨fun _ _ _ _ _ h => h, ?_⟩
          refine List.forall_mem_cons.2 ⟨fun _ _ _ _ _ h => h, ?_⟩
          refine List.forall_mem_cons.2 ⟨fun _ _ _ _ _ h => h, ?_⟩
          refine List.forall_mem_cons.2 ⟨fun _ _ _ _ _ h => h, ?_⟩
          refine List.forall_mem_cons.2 ⟨fun _ _ _ _ _ h => h, ?_⟩
          refine List.forall_mem_cons.2 ⟨fun _ _ _ _ _ h => h, ?_⟩
          exact fun _ h => absurd h (by simp)
        case g0 => exact trivial
        case good =>
          refine Rg.goodG_cons ?_ ?_
          · intro ac w' cx hg hn
            have e3 := cx.at_ 3 (by kernel_rfl) rfl
            refine .inl ⟨(Rg.wanted_none rfl), fun K hK => ?_⟩
            go_simp
            exact hK _ _ (Below.refl _ _) (fun t ht => by injection ht with ht; subst ht; exact rfl) trivial
          refine Rg.goodG_cons ?_ ?_
          · intro ac w' cx hg hn
            have e0 := cx.at_ 0 (by kernel_rfl) rfl
            refine .inl ⟨(Rg.wanted_none rfl), fun K hK => ?_⟩
            go_simp
            exact hK _ _ (Below.refl _ _) (fun t ht => by injection ht with ht; subst ht; exact rfl) trivial
          refine Rg.goodG_cons ?_ ?_
          · intro ac w' cx hg hn
            have e4 := cx.at_ 4 (by kernel_rfl) rfl
            refine .inl ⟨(Rg.wanted_none rfl), fun K hK => ?_⟩
            go_simp
            exact hK _ _ (Below.refl _ _) (fun t ht => by injection ht with ht; subst ht; exact rfl) trivial
          refine Rg.goodG_cons ?_ ?_
          · intro ac w' cx hg hn
            obtain ⟨v16, e16, r16⟩ := hn 16 (Rg.mem_of (by kernel_rfl))
            obtain rfl : v16 = .slice (some ⟨b, off, none⟩) N c := r16
            obtain ⟨v17, e17, r17⟩ := hn 17 (Rg.mem_of (by kernel_rfl))
            obtain rfl : v17 = .int .i64 (k : Int) := r17
            refine .inl ⟨(Rg.wanted_none rfl), fun K hK => ?_⟩
            go_simp
            exact hK _ _ (Below.refl _ _) (fun t ht => by injection ht with ht; subst ht; exact rfl) trivial
          refine Rg.goodG_cons ?_ ?_
          · intro ac w' cx hg hn
            obtain ⟨v18, e18, r18⟩ := hn 18 (Rg.mem_of (by kernel_rfl))
            obtain rfl : v18 = .pointer (some ⟨b, off + k * 3, none⟩) := r18
            refine .inl ⟨(Rg.wanted_none rfl), fun K hK => ?_⟩
            go_simp
            exact hK _ _ (Below.refl _ _) (fun t ht => by injection ht with ht; subst ht; exact rfl) trivial
          refine Rg.goodG_cons ?_ ?_
          · intro ac w' cx hg hn
            obtain ⟨v19, e19, r19⟩ := hn 19 (Rg.mem_of (by kernel_rfl))
            obtain rfl : v19 = .pointer (some ⟨b, off + k * 3, none⟩) := r19
            have hx := cell_below c0 cx.bel
            refine .inl ⟨(Rg.wanted_none rfl), fun K hK => ?_⟩
            go_simp
            exact hK _ _ (Below.refl _ _) (fun t ht => by injection ht with ht; subst ht; exact rfl) trivial
          refine Rg.goodG_cons ?_ ?_
          · intro ac w' cx hg hn
            obtain ⟨v15, e15, r15⟩ := hn 15 (Rg.mem_of (by kernel_rfl))
            obtain rfl : v15 = .string T := r15
            obtain ⟨v20, e20, r20⟩ := hn 20 (Rg.mem_of (by kernel_rfl))
            obtain rfl : v20 = .string nm := r20
            refine .inl ⟨(Rg.wanted_none rfl), fun K hK => ?_⟩
            go_simp
            exact hK _ _ (Below.refl _ _) (fun t ht => by injection ht with ht; subst ht; exact rfl) trivial
          refine Rg.goodG_cons ?_ ?_
          · intro ac w' cx hg hn
            refine .inl ⟨(Rg.wanted_none rfl), fun K hK => ?_⟩
            go_simp
            exact hK _ _ ((Below.refl _ _).alloc (Nat.le_refl _) _) (fun t ht => by injection ht with ht; subst ht; exact ⟨_, rfl, heap_alloc_new _ _⟩) trivial
          refine Rg.goodG_cons ?_ ?_
          · intro ac w' cx hg hn
            have e0 := cx.at_ 0 (by kernel_rfl) rfl
            refine .inl ⟨(Rg.wanted_none rfl), fun K hK => ?_⟩
            go_simp
            exact hK _ _ (Below.refl _ _) (fun t ht => by injection ht with ht; subst ht; exact rfl) trivial
          refine Rg.goodG_cons ?_ ?_
          · intro ac w' cx hg hn
            have e4 := cx.at_ 4 (by kernel_rfl) rfl
            refine .inl ⟨(Rg.wanted_none rfl), fun K hK => ?_⟩
            go_simp
            exact hK _ _ (Below.refl _ _) (fun t ht => by injection ht with ht; subst ht; exact rfl) trivial
          refine Rg.goodG_cons ?_ ?_
          · intro ac w' cx hg hn
            obtain ⟨v23, e23, r23⟩ := hn 23 (Rg.mem_of (by kernel_rfl))
            obtain rfl : v23 = .slice (some ⟨b, off, none⟩) N c := r23
            obtain ⟨v24, e24, r24⟩ := hn 24 (Rg.mem_of (by kernel_rfl))
            obtain rfl : v24 = .int .i64 (k : Int) := r24
            refine .inl ⟨(Rg.wanted_none rfl), fun K hK => ?_⟩
            go_simp
            exact hK _ _ (Below.refl _ _) (fun t ht => by injection ht with ht; subst ht; exact rfl) trivial
          refine Rg.goodG_cons ?_ ?_
          · intro ac w' cx hg hn
            obtain ⟨v25, e25, r25⟩ := hn 25 (Rg.mem_of (by kernel_rfl))
            obtain rfl : v25 = .pointer (some ⟨b, off + k * 3, none⟩) := r25
            refine .inl ⟨(Rg.wanted_none rfl), fun K hK => ?_⟩
            go_simp
            exact hK _ _ (Below.refl _ _) (fun t ht => by injection ht with ht; subst ht; exact rfl) trivial
          refine Rg.goodG_cons ?_ ?_
          · intro ac w' cx hg hn
            obtain ⟨v26, e26, r26⟩ := hn 26 (Rg.mem_of (by kernel_rfl))
            obtain rfl : v26 = .pointer (some ⟨b, off + k * 3 + 1, none⟩) := r26
            have hx := cell_below c1 cx.bel
            refine .inl ⟨(Rg.wanted_none rfl), fun K hK => ?_⟩
            go_simp
            exact hK _ _ (Below.refl _ _) (fun t ht => by injection ht with ht; subst ht; exact rfl) trivial
          refine Rg.goodG_cons ?_ ?_
          · intro ac w' cx hg hn
            obtain ⟨v22, e22, r22⟩ := hn 22 (Rg.mem_of (by kernel_rfl))
            replace r22 : Row4 v22 w' := r22
            obtain ⟨v27, e27, r27⟩ := hn 27 (Rg.mem_of (by kernel_rfl))
            obtain rfl : v27 = .int .i64 op := r27
            refine .inl ⟨(Rg.wanted_none rfl), fun K hK => ?_⟩
            obtain ⟨g22, rfl, x22⟩ := r22
            obtain ⟨y0, y1, y2, y3⟩ := Row4.cells x22
            rcases hop4 with ⟨rfl, rfl⟩ | ⟨rfl, rfl⟩ | ⟨rfl, rfl⟩ | ⟨rfl, rfl⟩
            all_goals
              go_simp
              exact hK _ _ (Below.refl _ _) (fun t ht => by injection ht with ht; subst ht; exact ⟨_, _, rfl, by assumption⟩) trivial
          refine Rg.goodG_cons ?_ ?_
          · intro ac w' cx hg hn
            obtain ⟨v28, e28, r28⟩ := hn 28 (Rg.mem_of (by kernel_rfl))
            replace r28 : SgAt S v28 w' := r28
            obtain ⟨g28, j28, rfl, hx⟩ := r28
            refine .inl ⟨(Rg.wanted_none rfl), fun K hK => ?_⟩
            go_simp
            exact hK _ _ (Below.refl _ _) (fun t ht => by injection ht with ht; subst ht; exact rfl) trivial
          refine Rg.goodG_cons ?_ ?_
          · intro ac w' cx hg hn
            obtain ⟨v21, e21, r21⟩ := hn 21 (Rg.mem_of (by kernel_rfl))
            obtain rfl : v21 = .string U2 := r21
            obtain ⟨v29, e29, r29⟩ := hn 29 (Rg.mem_of (by kernel_rfl))
            obtain rfl : v29 = .string S := r29
            refine .inl ⟨(Rg.wanted_none rfl), fun K hK => ?_⟩
            go_simp
            exact hK _ _ (Below.refl _ _) (fun t ht => by injection ht with ht; subst ht; exact rfl) trivial
          refine Rg.goodG_cons ?_ ?_
          · intro ac w' cx hg hn
            have e0 := cx.at_ 0 (by kernel_rfl) rfl
            refine .inl ⟨(Rg.wanted_none rfl), fun K hK => ?_⟩
            go_simp
            exact hK _ _ (Below.refl _ _) (fun t ht => by injection ht with ht; subst ht; exact rfl) trivial
          refine Rg.goodG_cons ?_ ?_
          · intro ac w' cx hg hn
            have e4 := cx.at_ 4 (by kernel_rfl) rfl
            refine .inl ⟨(Rg.wanted_none rfl), fun K hK => ?_⟩
            go_simp
            exact hK _ _ (Below.refl _ _) (fun t ht => by injection ht with ht; subst ht; exact rfl) trivial
          refine Rg.goodG_cons ?_ ?_
          · intro ac w' cx hg hn
            obtain ⟨v31, e31, r31⟩ := hn 31 (Rg.mem_of (by kernel_rfl))
            obtain rfl : v31 = .slice (some ⟨b, off, none⟩) N c := r31
            obtain ⟨v32, e32, r32⟩ := hn 32 (Rg.mem_of (by kernel_rfl))
            obtain rfl : v32 = .int .i64 (k : Int) := r32
            refine .inl ⟨(Rg.wanted_none rfl), fun K hK => ?_⟩
            go_simp
            exact hK _ _ (Below.refl _ _) (fun t ht => by injection ht with ht; subst ht; exact rfl) trivial
          refine Rg.goodG_cons ?_ ?_
          · intro ac w' cx hg hn
            obtain ⟨v33, e33, r33⟩ := hn 33 (Rg.mem_of (by kernel_rfl))
            obtain rfl : v33 = .pointer (some ⟨b, off + k * 3, none⟩) := r33
            refine .inl ⟨(Rg.wanted_none rfl), fun K hK => ?_⟩
            go_simp
            exact hK _ _ (Below.refl _ _) (fun t ht => by injection ht with ht; subst ht; exact rfl) trivial
          refine Rg.goodG_cons ?_ ?_
          · intro ac w' cx hg hn
            obtain ⟨v34, e34, r34⟩ := hn 34 (Rg.mem_of (by kernel_rfl))
            obtain rfl : v34 = .pointer (some ⟨b, off + k * 3 + 2, none⟩) := r34
            have hx := cell_below c2 cx.bel
            refine .inl ⟨(Rg.wanted_none rfl), fun K hK => ?_⟩
            go_simp
            exact hK _ _ (Below.refl _ _) (fun t ht => by injection ht with ht; subst ht; exact rfl) trivial
          refine Rg.goodG_cons ?_ ?_
          · intro ac w' cx hg hn
            obtain ⟨v35, e35, r35⟩ := hn 35 (Rg.mem_of (by kernel_rfl))
            obtain rfl : v35 = .string vl := r35
            refine .inl ⟨(Rg.wanted_none rfl), fun K hK => ?_⟩
            go_simp
            refine (HQ.out _).mono ?_
            rintro y w5 ⟨rfl, rfl⟩
            exact hK _ _ (Below.refl _ _) (fun t ht => by injection ht with ht; subst ht; exact rfl) trivial
          refine Rg.goodG_cons ?_ ?_
          · intro ac w' cx hg hn
            obtain ⟨v30, e30, r30⟩ := hn 30 (Rg.mem_of (by kernel_rfl))
            obtain rfl : v30 = .string U3 := r30
            obtain ⟨v36, e36, r36⟩ := hn 36 (Rg.mem_of (by kernel_rfl))
            obtain rfl : v36 = .string Q := r36
            refine .inl ⟨(Rg.wanted_none rfl), fun K hK => ?_⟩
            go_simp
            exact hK _ _ (Below.refl _ _) (fun t ht => by injection ht with ht; subst ht; exact rfl) trivial
          exact Rg.goodG_nil
        case done =>
          intro u w6 hb6 hr _
          have q37 : u 37 = .string U4 := hr 37 (by simp)
          simp only [Rg.fillL_cons, Rg.fillL_nil, if_true, if_false, Bool.false_eq_true, q37]
          change wpList _ _ _ [_] _ _
          have B6 := Lib.hid (HB.out.trans (hb6.mono HB.out.size))
          clear hr hb6
          go_wp2_with fail
          go_roundw
          case rel => exact Lib.hid ⟨k + 1, U4, rfl, by go_num, by have := HK.out; have := HN.out; omega, HU.out, B6.out⟩
          case measure => simp [intOf]; have := HK.out; omega
      · skip
        obtain ⟨U1, hU1, hadd1⟩ := Lb.add_tx (s := T) (t := ⟨#[44]⟩) (Y := [44]) HT.out rfl (by simp at hql ⊢; omega)
        obtain ⟨U2, hU2, hadd2⟩ := Lb.add_tx (s := U1) (t := nm) (Y := nm.data.toList) hU1 (Lb.tx_of _).symm (by simp at hql ⊢; omega)
        obtain ⟨U3, hU3, hadd3⟩ := Lb.add_tx (s := U2) (t := S) (Y := Sg) hU2 hSS (by simp at hql ⊢; omega)
        obtain ⟨U4, hU4, hadd4⟩ := Lb.add_tx (s := U3) (t := Q) (Y := Lb.quoteL vl.data.toList) hU3 hQ.symm (by simp at hql ⊢; omega)
        have HU := Lib.hid (show U4 = Lb.tx (123 :: prT (ms.take (k + 1))) by rw [hU4, HS.out, if_neg h0]; simp [oneT, hSg])
        have hz2 : (0 : Int) < (k : Int) := by omega
        have HK := Lib.hid hlt
        clear hU1 hU2 hU3 hU4 hQ hql hlen h0 hSS hSg hlt hk1
        go_wp2_with fail
        refine Rg.wp_region_invG (R := fun sl v w => match sl with
            | 15 => v = .string U1
            | 16 => v = .slice (some ⟨b, off, none⟩) N c
            | 17 => v = .int .i64 (k : Int)
            | 18 => v = .pointer (some ⟨b, off + k * 3, none⟩)
            | 19 => v = .pointer (some ⟨b, off + k * 3, none⟩)
            | 20 => v = .string nm
            | 21 => v = .string U2
            | 22 => Row4 v w
            | 23 => v = .slice (some ⟨b, off, none⟩) N c
            | 24 => v = .int .i64 (k : Int)
            | 25 => v = .pointer (some ⟨b, off + k * 3, none⟩)
            | 26 => v = .pointer (some ⟨b, off + k * 3 + 1, none⟩)
            | 27 => v = .int .i64 op
            | 28 => SgAt S v w
            | 29 => v = .string S
            | 30 => v = .string U3
            | 31 => v = .slice (some ⟨b, off, none⟩) N c
            | 32 => v = .int .i64 (k : Int)
            | 33 => v = .pointer (some ⟨b, off + k * 3, none⟩)
            | 34 => v = .pointer (some ⟨b, off + k * 3 + 2, none⟩)
            | 35 => v = .string vl
            | 36 => v = .string Q
            | 37 => v = .string U4
            | _ => True) (fun a w => True) 23 [15, 16, 17, 18, 19, 20, 21, 22, 23, 24, 25, 26, 27, 28, 29, 30, 31, 32, 33, 34, 35, 36, 37] 40 [false, false, false, false, false, false, false, false, false, false, false, false, false, false, false, true, true, true, true, true, true, true, true, true, true, true, true, true, true, true, true, true, true, true, true, true, true, true, false, false] (by kernel_rfl) rfl (by kernel_rfl) (by kernel_rfl) (by kernel_rfl) (by kernel_rfl) (Nat.le_of_ble_eq_true (by kernel_rfl)) (by kernel_rfl) (by kernel_rfl) ?mono ?g0 ?good ?done
        case mono =>
          refine List.forall_mem_cons.2 ⟨fun _ _ _ _ _ h => h, ?_⟩
          refine List.forall_mem_cons.2 ⟨fun _ _ _ _ _ h => h, ?_⟩
          refine List.forall_mem_cons.2 ⟨fun _ _ _ _ _ h => h, ?_⟩
          refine List.forall_mem_cons.2 ⟨fun _ _ _ _ _ h => h, ?_⟩
          refine List.forall_mem_cons.2 ⟨fun _ _ _ _ _ h => h, ?_⟩
          refine List.forall_mem_cons.2 ⟨fun _ _ _ _ _ h => h, ?_⟩
          refine List.forall_mem_cons.2 ⟨fun _ _ _ _ _ h => h, ?_⟩
          refine List.forall_mem_cons.2 ⟨fun _ _ _ _ hb h => Row4.below h hb, ?_⟩
          refine List.forall_mem_cons.2 ⟨fun _ _ _ _ _ h => h, ?_⟩
          refine List.forall_mem_cons.2 ⟨fun _ _ _ _ _ h => h, ?_⟩
          refine List.forall_mem_cons.2 ⟨fun _ _ _ _ _ h => h, ?_⟩
          refine List.forall_mem_cons.2 ⟨fun _ _ _ _ _ h => h, ?_⟩
          refine List.forall_mem_cons.2 ⟨fun _ _ _ _ _ h => h, ?_⟩
          refine List.forall_mem_cons.2 ⟨fun _ _ _ _ hb h => SgAt.below h hb, ?_⟩
          refine List.forall_mem_cons.2 ⟨fun _ _ _ _ _ h => h, ?_⟩
          refine List.forall_mem_cons.2 ⟨fun _ _ _ _ _ h => h, ?_⟩
          refine List.forall_mem_cons.2 ⟨fun _ _ _ _ _ h => h, ?_⟩
          refine List.forall_mem_cons.2 ⟨fun _ _ _ _ _ h => h, ?_⟩
          refine List.forall_mem_cons.2 ⟨fun _ _ _ _ _ h => h, ?_⟩
          refine List.forall_mem_cons.2 ⟨fun _ _ _ _ _ h => h, ?_⟩
          refine List.forall_mem_cons.2 ⟨fun _ _ _ _ _ h => h, ?_⟩
          refine List.forall_mem_cons.2 ⟨fun _ _ _ _ _ h => h, ?_⟩
          refine List.forall_mem_cons.2 ⟨fun _ _ _ _ _ h => h, ?_⟩
          exact fun _ h => absurd h (by simp)
        case g0 => exact trivial
        case good =>
          refine Rg.goodG_cons ?_ ?_
          · intro ac w' cx hg hn
            have e3 := cx.at_ 3 (by kernel_rfl) rfl
            refine .inl ⟨(Rg.wanted_none rfl), fun K hK => ?_⟩
            go_simp
            exact hK _ _ (Below.refl _ _) (fun t ht => by injection ht with ht; subst ht; exact rfl) trivial
          refine Rg.goodG_cons ?_ ?_
          · intro ac w' cx hg hn
            have e0 := cx.at_ 0 (by kernel_rfl) rfl
            refine .inl ⟨(Rg.wanted_none rfl), fun K hK => ?_⟩
            go_simp
            exact hK _ _ (Below.refl _ _) (fun t ht => by injection ht with ht; subst ht; exact rfl) trivial
          refine Rg.goodG_cons ?_ ?_
          · intro ac w' cx hg hn
            have e4 := cx.at_ 4 (by kernel_rfl) rfl
            refine .inl ⟨(Rg.wanted_none rfl), fun K hK => ?_⟩
            go_simp
            exact hK _ _ (Below.refl _ _) (fun t ht => by injection ht with ht; subst ht; exact rfl) trivial
          refine Rg.goodG_cons ?_ ?_
          · intro ac w' cx hg hn
            obtain ⟨v16, e16, r16⟩ := hn 16 (Rg.mem_of (by kernel_rfl))
            obtain rfl : v16 = .slice (some ⟨b, off, none⟩) N c := r16
            obtain ⟨v17, e17, r17⟩ := hn 17 (Rg.mem_of (by kernel_rfl))
            obtain rfl : v17 = .int .i64 (k : Int) := r17
            refine .inl ⟨(Rg.wanted_none rfl), fun K hK => ?_⟩
            go_simp
            exact hK _ _ (Below.refl _ _) (fun t ht => by injection ht with ht; subst ht; exact rfl) trivial
          refine Rg.goodG_cons ?_ ?_
          · intro ac w' cx hg hn
            obtain ⟨v18, e18, r18⟩ := hn 18 (Rg.mem_of (by kernel_rfl))
            obtain rfl : v18 = .pointer (some ⟨b, off + k * 3, none⟩) := r18
            refine .inl ⟨(Rg.wanted_none rfl), fun K hK => ?_⟩
            go_simp
            exact hK _ _ (Below.refl _ _) (fun t ht => by injection ht with ht; subst ht; exact rfl) trivial
          refine Rg.goodG_cons ?_ ?_
          · intro ac w' cx hg hn
            obtain ⟨v19, e19, r19⟩ := hn 19 (Rg.mem_of (by kernel_rfl))
            obtain rfl : v19 = .pointer (some ⟨b, off + k * 3, none⟩) := r19
            have hx := cell_below c0 cx.bel
            refine .inl ⟨(Rg.wanted_none rfl), fun K hK => ?_⟩
            go_simp
            exact hK _ _ (Below.refl _ _) (fun t ht => by injection ht with ht; subst ht; exact rfl) trivial
          refine Rg.goodG_cons ?_ ?_
          · intro ac w' cx hg hn
            obtain ⟨v15, e15, r15⟩ := hn 15 (Rg.mem_of (by kernel_rfl))
            obtain rfl : v15 = .string U1 := r15
            obtain ⟨v20, e20, r20⟩ := hn 20 (Rg.mem_of (by kernel_rfl))
            obtain rfl : v20 = .string nm := r20
            refine .inl ⟨(Rg.wanted_none rfl), fun K hK => ?_⟩
            go_simp
            exact hK _ _ (Below.refl _ _) (fun t ht => by injection ht with ht; subst ht; exact rfl) trivial
          refine Rg.goodG_cons ?_ ?_
          · intro ac w' cx hg hn
            refine .inl ⟨(Rg.wanted_none rfl), fun K hK => ?_⟩
            go_simp
            exact hK _ _ ((Below.refl _ _).alloc (Nat.le_refl _) _) (fun t ht => by injection ht with ht; subst ht; exact ⟨_, rfl, heap_alloc_new _ _⟩) trivial
          refine Rg.goodG_cons ?_ ?_
          · intro ac w' cx hg hn
            have e0 := cx.at_ 0 (by kernel_rfl) rfl
            refine .inl ⟨(Rg.wanted_none rfl), fun K hK => ?_⟩
            go_simp
            exact hK _ _ (Below.refl _ _) (fun t ht => by injection ht with ht; subst ht; exact rfl) trivial
          refine Rg.goodG_cons ?_ ?_
          · intro ac w' cx hg hn
            have e4 := cx.at_ 4 (by kernel_rfl) rfl
            refine .inl ⟨(Rg.wanted_none rfl), fun K hK => ?_⟩
            go_simp
            exact hK _ _ (Below.refl _ _) (fun t ht => by injection ht with ht; subst ht; exact rfl) trivial
          refine Rg.goodG_cons ?_ ?_
          · intro ac w' cx hg hn
            obtain ⟨v23, e23, r23⟩ := hn 23 (Rg.mem_of (by kernel_rfl))
            obtain rfl : v23 = .slice (some ⟨b, off, none⟩) N c := r23
            obtain ⟨v24, e24, r24⟩ := hn 24 (Rg.mem_of (by kernel_rfl))
            obtain rfl : v24 = .int .i64 (k : Int) := r24
            refine .inl ⟨(Rg.wanted_none rfl), fun K hK => ?_⟩
            go_simp
            exact hK _ _ (Below.refl _ _) (fun t ht => by injection ht with ht; subst ht; exact rfl) trivial
          refine Rg.goodG_cons ?_ ?_
          · intro ac w' cx hg hn
            obtain ⟨v25, e25, r25⟩ := hn 25 (Rg.mem_of (by kernel_rfl))
            obtain rfl : v25 = .pointer (some ⟨b, off + k * 3, none⟩) := r25
            refine .inl ⟨(Rg.wanted_none rfl), fun K hK => ?_⟩
            go_simp
            exact hK _ _ (Below.refl _ _) (fun t ht => by injection ht with ht; subst ht; exact rfl) trivial
          refine Rg.goodG_cons ?_ ?_
          · intro ac w' cx hg hn
            obtain ⟨v26, e26, r26⟩ := hn 26 (Rg.mem_of (by kernel_rfl))
            obtain rfl : v26 = .pointer (some ⟨b, off + k * 3 + 1, none⟩) := r26
            have hx := cell_below c1 cx.bel
            refine .inl ⟨(Rg.wanted_none rfl), fun K hK => ?_⟩
            go_simp
            exact hK _ _ (Below.refl _ _) (fun t ht => by injection ht with ht; subst ht; exact rfl) trivial
          refine Rg.goodG_cons ?_ ?_
          · intro ac w' cx hg hn
            obtain ⟨v22, e22, r22⟩ := hn 22 (Rg.mem_of (by kernel_rfl))
            replace r22 : Row4 v22 w' := r22
            obtain ⟨v27, e27, r27⟩ := hn 27 (Rg.mem_of (by kernel_rfl))
            obtain rfl : v27 = .int .i64 op := r27
            refine .inl ⟨(Rg.wanted_none rfl), fun K hK => ?_⟩
            obtain ⟨g22, rfl, x22⟩ := r22
            obtain ⟨y0, y1, y2, y3⟩ := Row4.cells x22
            rcases hop4 with ⟨rfl, rfl⟩ | ⟨rfl, rfl⟩ | ⟨rfl, rfl⟩ | ⟨rfl, rfl⟩
            all_goals
              go_simp
              exact hK _ _ (Below.refl _ _) (fun t ht => by injection ht with ht; subst ht; exact ⟨_, _, rfl, by assumption⟩) trivial
          refine Rg.goodG_cons ?_ ?_
          · intro ac w' cx hg hn
            obtain ⟨v28, e28, r28⟩ := hn 28 (Rg.mem_of (by kernel_rfl))
            replace r28 : SgAt S v28 w' := r28
            obtain ⟨g28, j28, rfl, hx⟩ := r28
            refine .inl ⟨(Rg.wanted_none rfl), fun K hK => ?_⟩
            go_simp
            exact hK _ _ (Below.refl _ _) (fun t ht => by injection ht with ht; subst ht; exact rfl) trivial
          refine Rg.goodG_cons ?_ ?_
          · intro ac w' cx hg hn
            obtain ⟨v21, e21, r21⟩ := hn 21 (Rg.mem_of (by kernel_rfl))
            obtain rfl : v21 = .string U2 := r21
            obtain ⟨v29, e29, r29⟩ := hn 29 (Rg.mem_of (by kernel_rfl))
            obtain rfl : v29 = .string S := r29
            refine .inl ⟨(Rg.wanted_none rfl), fun K hK => ?_⟩
            go_simp
            exact hK _ _ (Below.refl _ _) (fun t ht => by injection ht with ht; subst ht; exact rfl) trivial
          refine Rg.goodG_cons ?_ ?_
          · intro ac w' cx hg hn
            have e0 := cx.at_ 0 (by kernel_rfl) rfl
            refine .inl ⟨(Rg.wanted_none rfl), fun K hK => ?_⟩
            go_simp
            exact hK _ _ (Below.refl _ _) (fun t ht => by injection ht with ht; subst ht; exact rfl) trivial
          refine Rg.goodG_cons ?_ ?_
          · intro ac w' cx hg hn
            have e4 := cx.at_ 4 (by kernel_rfl) rfl
            refine .inl ⟨(Rg.wanted_none rfl), fun K hK => ?_⟩
            go_simp
            exact hK _ _ (Below.refl _ _) (fun t ht => by injection ht with ht; subst ht; exact rfl) trivial
          refine Rg.goodG_cons ?_ ?_
          · intro ac w' cx hg hn
            obtain ⟨v31, e31, r31⟩ := hn 31 (Rg.mem_of (by kernel_rfl))
            obtain rfl : v31 = .slice (some ⟨b, off, none⟩) N c := r31
            obtain ⟨v32, e32, r32⟩ := hn 32 (Rg.mem_of (by kernel_rfl))
            obtain rfl : v32 = .int .i64 (k : Int) := r32
            refine .inl ⟨(Rg.wanted_none rfl), fun K hK => ?_⟩
            go_simp
            exact hK _ _ (Below.refl _ _) (fun t ht => by injection ht with ht; subst ht; exact rfl) trivial
          refine Rg.goodG_cons ?_ ?_
          · intro ac w' cx hg hn
            obtain ⟨v33, e33, r33⟩ := hn 33 (Rg.mem_of (by kernel_rfl))
            obtain rfl : v33 = .pointer (some ⟨b, off + k * 3, none⟩) := r33
            refine .inl ⟨(Rg.wanted_none rfl), fun K hK => ?_⟩
            go_simp
            exact hK _ _ (Below.refl _ _) (fun t ht => by injection ht with ht; subst ht; exact rfl) trivial
          refine Rg.goodG_cons ?_ ?_
          · intro ac w' cx hg hn
            obtain ⟨v34, e34, r34⟩ := hn 34 (Rg.mem_of (by kernel_rfl))
            obtain rfl : v34 = .pointer (some ⟨b, off + k * 3 + 2, none⟩) := r34
            have hx := cell_below c2 cx.bel
            refine .inl ⟨(Rg.wanted_none rfl), fun K hK => ?_⟩
            go_simp
            exact hK _ _ (Below.refl _ _) (fun t ht => by injection ht with ht; subst ht; exact rfl) trivial
          refine Rg.goodG_cons ?_ ?_
          · intro ac w' cx hg hn
            obtain ⟨v35, e35, r35⟩ := hn 35 (Rg.mem_of (by kernel_rfl))
            obtain rfl : v35 = .string vl := r35
            refine .inl ⟨(Rg.wanted_none rfl), fun K hK => ?_⟩
            go_simp
            refine (HQ.out _).mono ?_
            rintro y w5 ⟨rfl, rfl⟩
            exact hK _ _ (Below.refl _ _) (fun t ht => by injection ht with ht; subst ht; exact rfl) trivial
          refine Rg.goodG_cons ?_ ?_
          · intro ac w' cx hg hn
            obtain ⟨v30, e30, r30⟩ := hn 30 (Rg.mem_of (by kernel_rfl))
            obtain rfl : v30 = .string U3 := r30
            obtain ⟨v36, e36, r36⟩ := hn 36 (Rg.mem_of (by kernel_rfl))
            obtain rfl : v36 = .string Q := r36
            refine .inl ⟨(Rg.wanted_none rfl), fun K hK => ?_⟩
            go_simp
            exact hK _ _ (Below.refl _ _) (fun t ht => by injection ht with ht; subst ht; exact rfl) trivial
          exact Rg.goodG_nil
        case done =>
          intro u w6 hb6 hr _
          have q37 : u 37 = .string U4 := hr 37 (by simp)
          simp only [Rg.fillL_cons, Rg.fillL_nil, if_true, if_false, Bool.false_eq_true, q37]
          change wpList _ _ _ [_] _ _
          have B6 := Lib.hid (HB.out.trans (hb6.mono HB.out.size))
          clear hr hb6
          go_wp2_with fail
          go_roundw
          case rel => exact Lib.hid ⟨k + 1, U4, rfl, by go_num, by have := HK.out; have := HN.out; omega, HU.out, B6.out⟩
          case measure => simp [intOf]; have := HK.out; omega
    · obtain rfl : k = N := by have := HN.out; omega
      have hki : ¬ ((k : Nat) : Int) < (k : Int) := by omega
      have hfull : ms.take k = ms := List.take_of_length_le (by have := HN.out; omega)
      obtain ⟨V, hV, hadd⟩ := Lb.add_tx (s := T) (t := ⟨#[125]⟩) (Y := [125]) HT.out rfl (by rw [hfull]; have := HL.out; simp; omega)
      have HV' := Lib.hid (show V = Lb.tx (printF ms) by rw [hV, hfull]; rfl)
      clear hV hb hT hfull
      go_wp2_with fail
      go_ret
      exact ⟨by rw [HV'.out]; rfl, HB.out⟩
end Go.Proofs.YtnabfganecghkaaDoor
