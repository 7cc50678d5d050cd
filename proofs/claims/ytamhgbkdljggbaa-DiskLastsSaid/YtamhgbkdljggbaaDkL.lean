/- either; left. -/
import Derived.Test.YtamhgbkdljggbaaDkK
import Derived.Test.YtamhgbkdljggbaaRgI
namespace Go.Proofs.Ytamhgbkdljggbaa.Dk
open Go.RowKit Go.Maps Go.Sort Go.Proofs
set_option linter.unusedVariables false

def KeyV (mb : Option Nat) (v : Value) (w : World) : Prop := ∃ Bm, v = .func (.func 52) #[] #[.pointer (some ⟨Bm, 0, none⟩)] ∧ Bm < w.heap.size ∧ w.cell? ⟨Bm, 0, none⟩ = some (.map mb)
theorem KeyV.below {mb : Option Nat} {v : Value} {w w' : World} (h : KeyV mb v w) (hb : Below w.heap.size w w') : KeyV mb v w' := by
  obtain ⟨Bm, h1, h2, h3⟩ := h
  exact ⟨Bm, h1, Nat.lt_of_lt_of_le h2 hb.size, (hb.cell (p := ⟨Bm, 0, none⟩) h2).trans h3⟩
def SrtV (b0 M : Nat) (f : Nm → Nat) (v : Value) (w : World) : Prop := ∃ ss, Ns f ss ∧ ss.length ≤ M ∧ w.ownsRow b0 9 1 v ss.length ((srt ss).map encStr)
theorem SrtV.below {b0 M : Nat} {f : Nm → Nat} {v : Value} {w w' : World} (h : SrtV b0 M f v w) (hb : Below w.heap.size w w') : SrtV b0 M f v w' := by
  obtain ⟨ss, h1, h2, h3⟩ := h
  exact ⟨ss, h1, h2, own_abide h3 (fun k hk => hb.block k (h3.lt k hk).2)⟩
/-- the names of both, rising -/
def EitP (w : World) (M : Nat) (S : PD) (e : Ending) (w' : World) : Prop := ∃ A c s1 s2 l, l = Lib.compact (srt (srt s1 ++ s2)) ∧ Ns S.now s1 ∧ Ns S.sure s2 ∧ s1.length ≤ M ∧ s2.length ≤ M ∧ e = .returned (.slice A l.length c) ∧ NmsAt w' w.heap.size A l ∧ Below w.heap.size w w'
set_option maxHeartbeats 2000000 in
set_option maxRecDepth 100000 in
theorem either_any (O : Nat → Prop) (d M : Nat) (S : PD) (w : World) (h : DK O w d M S) (hM : M ≤ 1000000) : Calls Try.prog 33 #[.pointer (some ⟨d, 0, none⟩)] w (EitP w M S) := by
  show Calls Try.prog 33 #[.pointer (some ⟨d, 0, none⟩)] w fun e w' => EitP w M S e w'
  have H := Lib.hid h
  obtain ⟨⟨c0, c1, c2, c3, c4, c5⟩, _⟩ := h.cells
  obtain ⟨nb, hnb⟩ : ∃ nb, S.nb = nb := ⟨_, rfl⟩
  obtain ⟨sb, hsb⟩ : ∃ sb, S.sb = sb := ⟨_, rfl⟩
  have HN := Lib.hid (show MapP w nb S.now M from hnb ▸ h.now)
  have HU := Lib.hid (show MapP w sb S.sure M from hsb ▸ h.sure)
  rw [hnb] at c1
  rw [hsb] at c2
  have HNK := Lib.hid (fun (W : World) (hb : Below w.heap.size w W) => HN.out.keep (w' := W) (fun b e => hb.block b (HN.out.lt b e)))
  have HUK := Lib.hid (fun (W : World) (hb : Below w.heap.size w W) => HU.out.keep (w' := W) (fun b e => hb.block b (HU.out.lt b e)))
  clear h hnb hsb
  go_enter Try.func33, Try.ntmps33
  go_wp2_with fail
  obtain ⟨b0, hb0⟩ : ∃ b0, w.heap.size = b0 := ⟨_, rfl⟩
  refine Rg.wp_region_invG (R := fun sl v w => match sl with
      | 4 => v = .pointer (some ⟨d, 0, none⟩)
      | 5 => v = .pointer (some ⟨d, 0, none⟩)
      | 6 => v = .pointer (some ⟨d, 1, none⟩)
      | 7 => v = .map nb
      | 8 => KeyV nb v w
      | 9 => SrtV b0 M S.now v w
      | 10 => v = .pointer (some ⟨d, 0, none⟩)
      | 11 => v = .pointer (some ⟨d, 0, none⟩)
      | 12 => v = .pointer (some ⟨d, 2, none⟩)
      | 13 => v = .map sb
      | 14 => KeyV sb v w
      | _ => True) (fun a w => True) 11 [4, 5, 6, 7, 8, 9, 10, 11, 12, 13, 14] 20 [false, false, false, false, true, true, true, true, true, true, true, true, true, true, true, false, false, false, false, false] (by kernel_rfl) rfl (by kernel_rfl) (by kernel_rfl) (by kernel_rfl) (by kernel_rfl) (Nat.le_of_ble_eq_true (by kernel_rfl)) (by kernel_rfl) (by kernel_rfl) ?mono ?g0 ?good ?done
  case mono =>
    refine List.forall_mem_cons.2 ⟨fun _ _ _ _ _ h => h, ?_⟩
    refine List.forall_mem_cons.2 ⟨fun _ _ _ _ _ h => h, ?_⟩
    refine List.forall_mem_cons.2 ⟨fun _ _ _ _ _ h => h, ?_⟩
    refine List.forall_mem_cons.2 ⟨fun _ _ _ _ _ h => h, ?_⟩
    refine List.forall_mem_cons.2 ⟨fun _ _ _ _ hb h => KeyV.below h hb, ?_⟩
    refine List.forall_mem_cons.2 ⟨fun _ _ _ _ hb h => SrtV.below h hb, ?_⟩
    refine List.forall_mem_cons.2 ⟨fun _ _ _ _ _ h => h, ?_⟩
    refine List.forall_mem_cons.2 ⟨fun _ _ _ _ _ h => h, ?_⟩
    refine List.forall_mem_cons.2 ⟨fun _ _ _ _ _ h => h, ?_⟩
    refine List.forall_mem_cons.2 ⟨fun _ _ _ _ _ h => h, ?_⟩
    refine List.forall_mem_cons.2 ⟨fun _ _ _ _ hb h => KeyV.below h hb, ?_⟩
    exact fun _ h => absurd h (by simp)
  case g0 => exact trivial
  case good =>
    refine Rg.goodG_cons ?_ ?_
    · intro ac w' cx hg hn
      have e0 := cx.at_ 0 (by kernel_rfl) rfl
      refine .inl ⟨(Rg.wanted_none rfl), fun K hK => ?_⟩
      go_simp
      exact hK _ _ (Below.refl _ _) (fun t ht => by injection ht with ht; subst ht; exact rfl) trivial
    refine Rg.goodG_cons ?_ ?_
    · intro ac w' cx hg hn
      obtain ⟨v4, e4, r4⟩ := hn 4 (Rg.mem_of (by kernel_rfl))
      obtain rfl : v4 = .pointer (some ⟨d, 0, none⟩) := r4
      refine .inl ⟨(Rg.wanted_none rfl), fun K hK => ?_⟩
      go_simp
      exact hK _ _ (Below.refl _ _) (fun t ht => by injection ht with ht; subst ht; exact rfl) trivial
    refine Rg.goodG_cons ?_ ?_
    · intro ac w' cx hg hn
      obtain ⟨v5, e5, r5⟩ := hn 5 (Rg.mem_of (by kernel_rfl))
      obtain rfl : v5 = .pointer (some ⟨d, 0, none⟩) := r5
      refine .inl ⟨(Rg.wanted_none rfl), fun K hK => ?_⟩
      go_simp
      exact hK _ _ (Below.refl _ _) (fun t ht => by injection ht with ht; subst ht; exact rfl) trivial
    refine Rg.goodG_cons ?_ ?_
    · intro ac w' cx hg hn
      obtain ⟨v6, e6, r6⟩ := hn 6 (Rg.mem_of (by kernel_rfl))
      obtain rfl : v6 = .pointer (some ⟨d, 1, none⟩) := r6
      have hx := cb c1 cx.bel
      refine .inl ⟨(Rg.wanted_none rfl), fun K hK => ?_⟩
      go_simp
      exact hK _ _ (Below.refl _ _) (fun t ht => by injection ht with ht; subst ht; exact rfl) trivial
    refine Rg.goodG_cons ?_ ?_
    · intro ac w' cx hg hn
      obtain ⟨v7, e7, r7⟩ := hn 7 (Rg.mem_of (by kernel_rfl))
      obtain rfl : v7 = .map nb := r7
      refine .inl ⟨(Rg.wanted_none rfl), fun K hK => ?_⟩
      go_simp
      refine (keys_any nb _).mono ?_
      rintro y w5 ⟨rfl, rfl⟩
      exact hK _ _ (grows w' _) (fun t ht => by injection ht with ht; subst ht; exact ⟨_, rfl, by simp, by rw [cell_of_row _ _ _ _ _ _ (heap_alloc_new w' _)]; rfl⟩) trivial
    refine Rg.goodG_cons ?_ ?_
    · intro ac w' cx hg hn
      obtain ⟨v8, e8, r8⟩ := hn 8 (Rg.mem_of (by kernel_rfl))
      replace r8 : KeyV nb v8 w' := r8
      refine .inl ⟨(Rg.wanted_none rfl), fun K hK => ?_⟩
      obtain ⟨Bm, rfl, hB, hc⟩ := r8
      go_simp
      refine (sorted_any (HNK.out _ cx.bel) hB hc hM).mono ?_
      rintro y w5 ⟨v, ss, rfl, hn1, hl1, hrow, hb5⟩
      exact hK _ _ hb5 (fun t ht => by injection ht with ht; subst ht; exact ⟨ss, hn1, hl1, ownsRow_base_a hrow (by rw [← hb0]; exact cx.bel.size)⟩) trivial
    refine Rg.goodG_cons ?_ ?_
    · intro ac w' cx hg hn
      have e0 := cx.at_ 0 (by kernel_rfl) rfl
      refine .inl ⟨(Rg.wanted_none rfl), fun K hK => ?_⟩
      go_simp
      exact hK _ _ (Below.refl _ _) (fun t ht => by injection ht with ht; subst ht; exact rfl) trivial
    refine Rg.goodG_cons ?_ ?_
    · intro ac w' cx hg hn
      obtain ⟨v10, e10, r10⟩ := hn 10 (Rg.mem_of (by kernel_rfl))
      obtain rfl : v10 = .pointer (some ⟨d, 0, none⟩) := r10
      refine .inl ⟨(Rg.wanted_none rfl), fun K hK => ?_⟩
      go_simp
      exact hK _ _ (Below.refl _ _) (fun t ht => by injection ht with ht; subst ht; exact rfl) trivial
    refine Rg.goodG_cons ?_ ?_
    · intro ac w' cx hg hn
      obtain ⟨v11, e11, r11⟩ := hn 11 (Rg.mem_of (by kernel_rfl))
      obtain rfl : v11 = .pointer (some ⟨d, 0, none⟩) := r11
      refine .inl ⟨(Rg.wanted_none rfl), fun K hK => ?_⟩
      go_simp
      exact hK _ _ (Below.refl _ _) (fun t ht => by injection ht with ht; subst ht; exact rfl) trivial
    refine Rg.goodG_cons ?_ ?_
    · intro ac w' cx hg hn
      obtain ⟨v12, e12, r12⟩ := hn 12 (Rg.mem_of (by kernel_rfl))
      obtain rfl : v12 = .pointer (some ⟨d, 2, none⟩) := r12
      have hx := cb c2 cx.bel
      refine .inl ⟨(Rg.wanted_none rfl), fun K hK => ?_⟩
      go_simp
      exact hK _ _ (Below.refl _ _) (fun t ht => by injection ht with ht; subst ht; exact rfl) trivial
    refine Rg.goodG_cons ?_ ?_
    · intro ac w' cx hg hn
      obtain ⟨v13, e13, r13⟩ := hn 13 (Rg.mem_of (by kernel_rfl))
      obtain rfl : v13 = .map sb := r13
      refine .inl ⟨(Rg.wanted_none rfl), fun K hK => ?_⟩
      go_simp
      refine (keys_any sb _).mono ?_
      rintro y w5 ⟨rfl, rfl⟩
      exact hK _ _ (grows w' _) (fun t ht => by injection ht with ht; subst ht; exact ⟨_, rfl, by simp, by rw [cell_of_row _ _ _ _ _ _ (heap_alloc_new w' _)]; rfl⟩) trivial
    exact Rg.goodG_nil
  case done =>
    intro u w3 hb3 hr _
    obtain ⟨s1, hn1, hl1, hrow⟩ : SrtV b0 M S.now (u 9) w3 := hr 9 (by simp)
    obtain ⟨Bm, e14, hB, hc⟩ : KeyV sb (u 14) w3 := hr 14 (by simp)
    obtain ⟨v9, e9⟩ : ∃ v9, u 9 = v9 := ⟨_, rfl⟩
    rw [e9] at hrow
    simp only [Rg.fillL_cons, Rg.fillL_nil, if_true, if_false, Bool.false_eq_true, e9, e14]
    change wpList _ _ _ [_, _] _ _
    have hz : b0 ≤ w3.heap.size := by rw [← hb0]; exact hb3.size
    have hsl : (srt s1).length = s1.length := List.length_mergeSort _
    rw [← hsl] at hrow
    have HC := Lib.hid (seqs_any (HUK.out _ hb3) hB hc hM hz (by omega) hrow)
    have HB3 := Lib.hid hb3
    have HS1 := Lib.hid (And.intro hn1 hl1)
    clear hr hb3 hB hc hrow hn1 hl1 e9 e14 c0 c1 c2 c3 c4 c5
    go_wp2_with fail
    refine HC.out.mono ?_
    rintro e w5 ⟨v, s2, rfl, hn2, hl2, hrow, hb5⟩
    have hlen : (srt s1 ++ s2).length = (srt s1).length + s2.length := List.length_append
    rw [← hlen] at hrow
    have hz5 : b0 ≤ w5.heap.size := Nat.le_trans hz hb5.size
    have h4 : (srt s1 ++ s2).length ≤ 4000000 := by have := HS1.out.2; omega
    have HSO := Lib.hid (sort_any hrow h4 hz5)
    have HB5 := Lib.hid (show Below b0 w w5 from (HB3.out.mono (by omega)).trans hb5)
    have HS2 := Lib.hid (And.intro hn2 hl2)
    have H4 := Lib.hid h4
    have HZ5 := Lib.hid hz5
    clear hrow hn2 hl2 hlen hsl h4 hz5 hz hb5
    go_wp2_with fail
    refine HSO.out.mono ?_
    rintro e w6 ⟨rfl, hrow, hb6⟩
    have hlen : (srt (srt s1 ++ s2)).length = (srt s1 ++ s2).length := List.length_mergeSort _
    rw [← hlen] at hrow
    have HCO := Lib.hid (compact_any hrow (by have := H4.out; omega) (Nat.le_trans HZ5.out hb6.size))
    have HB6 := Lib.hid hb6
    clear hrow hlen hb6
    go_wp2_with fail
    refine HCO.out.mono ?_
    rintro e w7 ⟨A, c, rfl, hA, hb7⟩
    have HA := Lib.hid hA
    have HB7 := Lib.hid hb7
    clear hA hb7
    go_wp2_with fail
    go_ret
    exact ⟨A, c, s1, s2, _, rfl, HS1.out.1, HS2.out.1, HS1.out.2, HS2.out.2, rfl, by rw [hb0]; exact HA.out, by rw [hb0]; exact (HB5.out.trans HB6.out).trans HB7.out⟩
end Go.Proofs.Ytamhgbkdljggbaa.Dk
