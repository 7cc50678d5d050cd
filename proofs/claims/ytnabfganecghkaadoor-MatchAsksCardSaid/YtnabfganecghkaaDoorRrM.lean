/- The document's Ends: rows, choices, signs; all together; Match. -/
import Derived.Test.YtnabfganecghkaaDoorRrL
namespace Go.Proofs.YtnabfganecghkaaDoor
open Go.RowKit
set_option linter.unusedVariables false

/-- a kid's cells in memory, and its node -/
theorem kid_get {w : World} {U : Nat → Prop} {l : Nd} {C : List Value} {A : Option Addr} {n i : Nat} (hL : isL l = true) (hC : C.length = n * 3) (hA : Lies w U A C) (hV : NdV w U l (.agg C.toArray)) (hi : i < n) :
    ∃ b0 kd hs ks nd, A = some ⟨b0, 0, none⟩ ∧ (kidsL l)[i]? = some nd ∧ isN nd = true ∧ w.cell? ⟨b0, i * 3, none⟩ = some (.string kd) ∧ w.cell? ⟨b0, i * 3 + 1, none⟩ = some hs ∧ w.cell? ⟨b0, i * 3 + 2, none⟩ = some ks ∧ NdV w U nd (.agg #[.string kd, hs, ks]) := by
  obtain ⟨h1, h2⟩ := kids_at hL hV
  have hn : i < (kidsL l).length := by omega
  obtain ⟨g0, kd, hs, ks, g1, g2, g3, g4⟩ := h2 i _ (List.getElem?_eq_getElem hn)
  rcases hA with h | ⟨b0, e, _, hc⟩
  · rw [h] at hC; simp at hC; omega
  · exact ⟨b0, kd, hs, ks, _, e, List.getElem?_eq_getElem hn, g0, hc _ _ g1, hc _ _ g2, hc _ _ g3, g4⟩
theorem cell_below {w w' : World} {a : Addr} {v : Value} (h : w.cell? a = some v) (b : Below w.heap.size w w') : w'.cell? a = some v := (b.cell (block_lt_of_cell h)).trans h
theorem take_on {l : List Nd} {i : Nat} {nd : Nd} (h : l[i]? = some nd) : l.take (i + 1) = l.take i ++ [nd] := by
  obtain ⟨hi, e⟩ := List.getElem?_eq_some_iff.1 h
  rw [← e]
  exact List.take_succ_eq_append_getElem hi
def KidQ (l : Nd) : Prop := ∀ k, k ∈ kidsL l → isN k = true → EnQ k
/-- which places have turned, up to one -/
def difB (O O' : Nat → Bool) : Nat → Bool
  | 0 => false
  | n + 1 => difB O O' n || (O' n != O n)
theorem difB_no {O O' : Nat → Bool} : ∀ {n : Nat}, difB O O' n = false → ∀ i, i < n → O' i = O i
  | 0, _, i, hi => by omega
  | n + 1, h, i, hi => by
    simp only [difB, Bool.or_eq_false_iff] at h
    by_cases e : i = n
    · subst e
      simpa using h.2
    · exact difB_no h.1 i (by omega)
theorem difB_yes {O O' : Nat → Bool} : ∀ {n : Nat}, difB O O' n = true → ∃ i, i < n ∧ O' i ≠ O i
  | 0, h => by cases h
  | n + 1, h => by
    simp only [difB, Bool.or_eq_true] at h
    rcases h with h | h
    · obtain ⟨i, hi, h2⟩ := difB_yes h
      exact ⟨i, by omega, h2⟩
    · exact ⟨n, by omega, by simpa using h⟩
def ErRel (w : World) (F : Nat → Bool) (L : Bs) (S n : Nat) (ks : List Nd) (h : Nat) (v : Value) (v7 v9 : Value) (wr : World) : Prop :=
  ∃ (i g cc : Nat) (G : Nat → Bool), v7 = .slice (some ⟨g, 0, none⟩) (S + 1) cc ∧ v9 = .int .i64 (i : Int) ∧ i ≤ n ∧ Pb wr g (S + 1) G ∧ EndsOk (rowL (ks.take i)) L F G ∧ Nb wr h rowB nvo v ∧ Below w.heap.size w wr
theorem en_ret {nd : Nd} {w w' : World} {L : Bs} {F G : Nat → Bool} {S g cc : Nat} (hS : L.length = S) (hp : Pb w' g (S + 1) G) (he : EndsOk (Ln nd).1 L F G) (hb : Below w.heap.size w w') : EnP nd L F w (.returned (.slice (some ⟨g, 0, none⟩) (S + 1) cc)) w' := ⟨g, cc, G, by rw [hS], by rw [hS]; exact hp, he, hb⟩
set_option maxHeartbeats 4000000 in
set_option maxRecDepth 100000 in
theorem ends_row (l : Nd) (Q : KidQ l) : EnQ (.row l) := by
  intro w U V s L F b c hV hs hL hF
  obtain ⟨C, A, n, c2, rfl, hIL, ⟨hC, hn1⟩, hA, hK⟩ := hV
  obtain ⟨S, hS⟩ : ∃ S, L.length = S := ⟨_, rfl⟩
  have hsz : s.size = S := by rw [hs, tx_size, hS]
  obtain ⟨h, hh⟩ : ∃ h, w.heap.size = h := ⟨_, rfl⟩
  obtain ⟨W1, hW1⟩ : ∃ W1, w.alloc (.cells #[.string rowB, .slice none 0 0, .slice A n c2] 60 (0, 0)) = W1 := ⟨_, rfl⟩
  obtain ⟨W2, hW2⟩ : ∃ W2, W1.alloc (.cells (boA (S + 1)) 4) = W2 := ⟨_, rfl⟩
  have s1 : W1.heap.size = h + 1 := by rw [← hW1, ← hh]; simp
  have B1 : Below w.heap.size w W1 := hW1 ▸ (Below.refl _ _).alloc (Nat.le_refl _) _
  have B2 : Below W1.heap.size W1 W2 := hW2 ▸ (Below.refl _ _).alloc (Nat.le_refl _) _
  have n1 : Nb W1 h rowB nvo (.slice A n c2) := hh ▸ hW1 ▸ Nb.new w _ _ _
  have N2 := Lib.hid (n1.below B2)
  have BB := Lib.hid (B1.trans (B2.mono B1.size))
  have P2 := new_bools W1 (S + 1)
  rw [hW2, s1] at P2
  have PZ := Lib.hid P2.1
  have hmk : ∀ W : World, (Instr.makeSlice 57 (.int .i64 ((S : Int) + 1)) (.int .i64 ((S : Int) + 1))).run Tryd.prog W = .ok (.slice (some ⟨W.heap.size, 0, none⟩) (S + 1) (S + 1)) (W.alloc (.cells (boA (S + 1)) 4)) := fun W => make_bools (S + 1) (by omega) W
  have hS2 : S ≤ 1000 := by omega
  rw [hS] at hF
  have HF := Lib.hid hF
  have HSS := Lib.hid hS
  have HST := Lib.hid hs
  have HC := Lib.hid hC
  have HA := Lib.hid hA
  have HK := Lib.hid hK
  have HIL := Lib.hid hIL
  have HQ := Lib.hid Q
  rw [hS]
  obtain ⟨⟨z0, z1, z2⟩, zf0, zf1, zf2⟩ := N2.out.cells
  have HN := Lib.hid (show n = (kidsL l).length by have := (kids_at hIL hK).1; omega)
  have R0 := Lib.hid (show ErRel w F L S n (kidsL l) h (.slice A n c2) (.slice (some ⟨b, 0, none⟩) (S + 1) c) (.int .i64 ((0 : Nat) : Int)) W2 from ⟨0, b, c, F, rfl, rfl, by omega, HF.out.below BB.out, ends_eps L F, N2.out, BB.out⟩)
  unfold rowB at hW1 z0
  unfold rowB
  clear B1 B2 n1 P2 hF hS hL hs hC hA hK hIL Q
  go_enter Tryd.func34, Tryd.ntmps34
  go_wp2_with fail
  clear hW1 hW2 hmk s1 hh z0 z1 z2 zf0 zf1 zf2
  go_loopw [7, 9] (fun v7 v9 wr => Hid (ErRel w F L S n (kidsL l) h (.slice A n c2) v7 v9 wr)) (fun _ v9 _ => n - (intOf v9).toNat)
  case atStart => exact R0
  case round =>
    clear R0
    obtain ⟨i, g, cc, G, rfl, rfl, hi, hp, he, hn, hb⟩ := hrel.out
    clear hrel
    have HP := Lib.hid hp
    have HE := Lib.hid he
    have HNB := Lib.hid hn
    have HB := Lib.hid hb
    have HI := Lib.hid hi
    obtain ⟨⟨z0, z1, z2⟩, zf0, zf1, zf2⟩ := hn.cells
    clear hp he hn hi
    by_cases hlt : i < n
    · obtain ⟨b0, kd, ha, ka, nd, hA0, hnd, hN, k0, k1, k2, hv⟩ := kid_get HIL.out HC.out HA.out HK.out hlt
      subst hA0
      have k0 := cell_below k0 hb
      have k1 := cell_below k1 hb
      have k2 := cell_below k2 hb
      have hki : (i : Int) < (n : Int) := by omega
      have hki2 : ¬ (n : Int) ≤ (i : Int) := by omega
      have HLT := Lib.hid hlt
      have HND := Lib.hid hnd
      have HCALL := Lib.hid (HQ.out nd (List.mem_of_getElem? hnd) hN wr U _ s L G g cc (hv.below hb) HST.out (by have := HSS.out; omega) (by rw [HSS.out]; exact HP.out))
      rw [HSS.out] at HCALL
      have hi63 : i ≤ 1000 := by omega
      clear hnd hN hv hb hlt
      go_wp2_with fail
      refine HCALL.out.mono ?_
      rintro y w3 ⟨g3, c3, G3, rfl, hp3, he3, hb3⟩
      rw [HSS.out] at hp3
      have HP3 := Lib.hid hp3
      have HE3 := Lib.hid he3
      have HB3 := Lib.hid hb3
      rw [HSS.out]
      clear hp3 he3 hb3
      go_wp2_with fail
      go_roundw
      case rel => exact Lib.hid ⟨i + 1, g3, c3, G3, rfl, by go_num, by have := HLT.out; omega, HP3.out, by rw [take_on HND.out, rowL_snoc]; exact ends_cat HE.out HE3.out, HNB.out.below HB3.out, HB.out.trans (HB3.out.mono HB.out.size)⟩
      case measure => simp [intOf]; have := HLT.out; omega
    · obtain rfl : i = n := by have := HI.out; omega
      have hki : ¬ ((i : Nat) : Int) < (i : Int) := by omega
      clear hb
      go_wp2_with fail
      go_ret
      refine en_ret HSS.out HP.out ?_ HB.out
      show EndsOk (Ln l).1 L F G
      rw [ln_row HIL.out]
      have := HE.out
      rw [HN.out, List.take_of_length_le (Nat.le_refl _)] at this
      exact this
def EiRel (w : World) (F : Nat → Bool) (L : Bs) (S n : Nat) (ks : List Nd) (h : Nat) (v : Value) (v7 v10 : Value) (wr : World) : Prop :=
  ∃ (i g cc : Nat) (G : Nat → Bool), v7 = .slice (some ⟨g, 0, none⟩) (S + 1) cc ∧ v10 = .int .i64 (i : Int) ∧ i ≤ n ∧ Pb wr g (S + 1) G ∧ EndsOk (eitL (ks.take i)) L F G ∧ Nb wr h eitherB nvo v ∧ Below w.heap.size w wr
set_option maxHeartbeats 4000000 in
set_option maxRecDepth 100000 in
theorem ends_either (l : Nd) (Q : KidQ l) : EnQ (.either l) := by
  intro w U V s L F b c hV hs hL hF
  obtain ⟨C, A, n, c2, rfl, hIL, ⟨hC, hn1⟩, hA, hK⟩ := hV
  obtain ⟨S, hS⟩ : ∃ S, L.length = S := ⟨_, rfl⟩
  have hsz : s.size = S := by rw [hs, tx_size, hS]
  obtain ⟨h, hh⟩ : ∃ h, w.heap.size = h := ⟨_, rfl⟩
  obtain ⟨W1, hW1⟩ : ∃ W1, w.alloc (.cells #[.string eitherB, .slice none 0 0, .slice A n c2] 60 (0, 0)) = W1 := ⟨_, rfl⟩
  obtain ⟨W2, hW2⟩ : ∃ W2, W1.alloc (.cells (boA (S + 1)) 4) = W2 := ⟨_, rfl⟩
  have s1 : W1.heap.size = h + 1 := by rw [← hW1, ← hh]; simp
  have B1 : Below w.heap.size w W1 := hW1 ▸ (Below.refl _ _).alloc (Nat.le_refl _) _
  have B2 : Below W1.heap.size W1 W2 := hW2 ▸ (Below.refl _ _).alloc (Nat.le_refl _) _
  have n1 : Nb W1 h eitherB nvo (.slice A n c2) := hh ▸ hW1 ▸ Nb.new w _ _ _
  have N2 := Lib.hid (n1.below B2)
  have BB := Lib.hid (B1.trans (B2.mono B1.size))
  have P2 := new_bools W1 (S + 1)
  rw [hW2, s1] at P2
  have PZ := Lib.hid P2.1
  have hmk : ∀ W : World, (Instr.makeSlice 57 (.int .i64 ((S : Int) + 1)) (.int .i64 ((S : Int) + 1))).run Tryd.prog W = .ok (.slice (some ⟨W.heap.size, 0, none⟩) (S + 1) (S + 1)) (W.alloc (.cells (boA (S + 1)) 4)) := fun W => make_bools (S + 1) (by omega) W
  have hS2 : S ≤ 1000 := by omega
  rw [hS] at hF
  have HF := Lib.hid hF
  have HSS := Lib.hid hS
  have HST := Lib.hid hs
  have HC := Lib.hid hC
  have HA := Lib.hid hA
  have HK := Lib.hid hK
  have HIL := Lib.hid hIL
  have HQ := Lib.hid Q
  rw [hS]
  obtain ⟨⟨z0, z1, z2⟩, zf0, zf1, zf2⟩ := N2.out.cells
  have HN := Lib.hid (show n = (kidsL l).length by have := (kids_at hIL hK).1; omega)
  have R0 := Lib.hid (show EiRel w F L S n (kidsL l) h (.slice A n c2) (.slice (some ⟨h + 1, 0, none⟩) (S + 1) (S + 1)) (.int .i64 ((0 : Nat) : Int)) W2 from ⟨0, h + 1, S + 1, _, rfl, rfl, by omega, PZ.out, ends_none L F, N2.out, BB.out⟩)
  unfold eitherB at hW1 z0
  unfold eitherB
  clear B1 B2 n1 P2 hF hS hL hs hC hA hK hIL Q
  go_enter Tryd.func34, Tryd.ntmps34
  go_wp2_with fail
  clear hW1 hW2 hmk s1 hh z0 z1 z2 zf0 zf1 zf2
  go_loopw [7, 10] (fun v7 v10 wr => Hid (EiRel w F L S n (kidsL l) h (.slice A n c2) v7 v10 wr)) (fun _ v10 _ => n - (intOf v10).toNat)
  case atStart => exact R0
  case round =>
    clear R0
    obtain ⟨i, g, cc, G, rfl, rfl, hi, hp, he, hn, hb⟩ := hrel.out
    clear hrel
    have HP := Lib.hid hp
    have HE := Lib.hid he
    have HNB := Lib.hid hn
    have HB := Lib.hid hb
    have HI := Lib.hid hi
    obtain ⟨⟨z0, z1, z2⟩, zf0, zf1, zf2⟩ := hn.cells
    clear hp he hn hi
    by_cases hlt : i < n
    · obtain ⟨b0, kd, ha, ka, nd, hA0, hnd, hN, k0, k1, k2, hv⟩ := kid_get HIL.out HC.out HA.out HK.out hlt
      subst hA0
      have k0 := cell_below k0 hb
      have k1 := cell_below k1 hb
      have k2 := cell_below k2 hb
      have hki : (i : Int) < (n : Int) := by omega
      have hki2 : ¬ (n : Int) ≤ (i : Int) := by omega
      have HLT := Lib.hid hlt
      have HND := Lib.hid hnd
      have HCALL := Lib.hid (HQ.out nd (List.mem_of_getElem? hnd) hN wr U _ s L F b c (hv.below hb) HST.out (by have := HSS.out; omega) (by rw [HSS.out]; exact HF.out.below hb))
      rw [HSS.out] at HCALL
      have hi63 : i ≤ 1000 := by omega
      clear hnd hN hv hb hlt
      go_wp2_with fail
      refine HCALL.out.mono ?_
      rintro y w3 ⟨g3, c3, G3, rfl, hp3, he3, hb3⟩
      rw [HSS.out] at hp3
      have HP3 := Lib.hid hp3
      have HE3 := Lib.hid he3
      have HB3 := Lib.hid hb3
      rw [HSS.out]
      clear hp3 he3 hb3
      go_wp2_with fail
      refine (or_any (S + 1) g cc g3 c3 G G3 _ (HP.out.below HB3.out) HP3.out (by omega) (by omega)).mono ?_
      rintro y w4 ⟨g4, c4, rfl, hp4, hb4⟩
      have HP4 := Lib.hid hp4
      have HB4 := Lib.hid ((HB.out.trans (HB3.out.mono HB.out.size)).trans (hb4.mono (Nat.le_trans HB.out.size HB3.out.size)))
      have HN4 := Lib.hid ((HNB.out.below HB3.out).below hb4)
      clear hp4 hb4
      go_wp2_with fail
      go_roundw
      case rel => exact Lib.hid ⟨i + 1, g4, c4, _, rfl, by go_num, by have := HLT.out; omega, HP4.out, by rw [take_on HND.out, eitL_snoc]; exact ends_or HE.out HE3.out, HN4.out, HB4.out⟩
      case measure => simp [intOf]; have := HLT.out; omega
    · obtain rfl : i = n := by have := HI.out; omega
      have hki : ¬ ((i : Nat) : Int) < (i : Int) := by omega
      clear hb
      go_wp2_with fail
      go_ret
      refine en_ret HSS.out HP.out ?_ HB.out
      show EndsOk (Ln l).2 L F G
      rw [ln_eit HIL.out]
      have := HE.out
      rw [HN.out, List.take_of_length_le (Nat.le_refl _)] at this
      exact this
/-- a list of one node -/
theorem one_kid {l nd : Nd} (hL : isL l = true) (h1 : (kidsL l).length = 1) (h : (kidsL l)[0]? = some nd) (s : Bs) : (Ln nd).1 s ↔ (Ln l).2 s := by
  rw [ln_eit hL]
  have e : kidsL l = [nd] := by
    cases hk : kidsL l with
    | nil => rw [hk] at h1; simp at h1
    | cons a r =>
      rw [hk] at h1 h
      simp at h1 h
      rw [h1, h]
  rw [e]
  show _ ↔ (False ∨ (Ln nd).1 s)
  simp
theorem kid_one {w : World} {U : Nat → Prop} {l : Nd} {C : List Value} {A : Option Addr} (hL : isL l = true) (hC : C.length = 3) (hA : Lies w U A C) (hV : NdV w U l (.agg C.toArray)) :
    ∃ b0 kd hs ks nd, A = some ⟨b0, 0, none⟩ ∧ nd ∈ kidsL l ∧ (∀ s, (Ln nd).1 s ↔ (Ln l).2 s) ∧ isN nd = true ∧ w.cell? ⟨b0, 0, none⟩ = some (.string kd) ∧ w.cell? ⟨b0, 1, none⟩ = some hs ∧ w.cell? ⟨b0, 2, none⟩ = some ks ∧ NdV w U nd (.agg #[.string kd, hs, ks]) := by
  obtain ⟨b0, kd, hs, ks, nd, h1, h2, h3, h4, h5, h6, h7⟩ := kid_get (n := 1) (i := 0) hL (by omega) hA hV (by omega)
  have hk := (kids_at hL hV).1
  exact ⟨b0, kd, hs, ks, nd, h1, List.mem_of_getElem? h2, one_kid hL (by omega) h2, h3, by simpa using h4, by simpa using h5, by simpa using h6, h7⟩
set_option maxHeartbeats 4000000 in
set_option maxRecDepth 100000 in
theorem ends_opt1 (l : Nd) (Q : KidQ l) : EnQ (.opt l) := by
  intro w U V s L F b c hV hs hL hF
  obtain ⟨C, A, c2, rfl, hIL, hC, hA, hK⟩ := hV
  obtain ⟨S, hS⟩ : ∃ S, L.length = S := ⟨_, rfl⟩
  have hsz : s.size = S := by rw [hs, tx_size, hS]
  obtain ⟨h, hh⟩ : ∃ h, w.heap.size = h := ⟨_, rfl⟩
  obtain ⟨W1, hW1⟩ : ∃ W1, w.alloc (.cells #[.string ⟨#[63]⟩, .slice none 0 0, .slice A 1 c2] 60 (0, 0)) = W1 := ⟨_, rfl⟩
  obtain ⟨W2, hW2⟩ : ∃ W2, W1.alloc (.cells (boA (S + 1)) 4) = W2 := ⟨_, rfl⟩
  have s1 : W1.heap.size = h + 1 := by rw [← hW1, ← hh]; simp
  have B1 : Below w.heap.size w W1 := hW1 ▸ (Below.refl _ _).alloc (Nat.le_refl _) _
  have B2 : Below W1.heap.size W1 W2 := hW2 ▸ (Below.refl _ _).alloc (Nat.le_refl _) _
  have n1 : Nb W1 h ⟨#[63]⟩ nvo (.slice A 1 c2) := hh ▸ hW1 ▸ Nb.new w _ _ _
  have N2 := Lib.hid (n1.below B2)
  have BB := Lib.hid (B1.trans (B2.mono B1.size))
  have P2 := new_bools W1 (S + 1)
  rw [hW2, s1] at P2
  have PZ := Lib.hid P2.1
  have hmk : ∀ W : World, (Instr.makeSlice 57 (.int .i64 ((S : Int) + 1)) (.int .i64 ((S : Int) + 1))).run Tryd.prog W = .ok (.slice (some ⟨W.heap.size, 0, none⟩) (S + 1) (S + 1)) (W.alloc (.cells (boA (S + 1)) 4)) := fun W => make_bools (S + 1) (by omega) W
  have hS2 : S ≤ 1000 := by omega
  rw [hS] at hF
  have HF := Lib.hid hF
  have HSS := Lib.hid hS
  have HST := Lib.hid hs
  have HC := Lib.hid hC
  have HA := Lib.hid hA
  have HK := Lib.hid hK
  have HIL := Lib.hid hIL
  have HQ := Lib.hid Q
  rw [hS]
  obtain ⟨⟨z0, z1, z2⟩, zf0, zf1, zf2⟩ := N2.out.cells
  clear B1 B2 n1 P2 hF hS hL hs hC hA hK hIL Q
  obtain ⟨b0, kd, ha, ka, nd, hA0, hnd, hLn, hN, k0, k1, k2, hv⟩ := kid_one HIL.out HC.out HA.out HK.out
  subst hA0
  have k0 := cell_below k0 BB.out
  have k1 := cell_below k1 BB.out
  have k2 := cell_below k2 BB.out
  have HCALL := Lib.hid (HQ.out nd hnd hN W2 U _ s L F b c (hv.below BB.out) HST.out (by have := HSS.out; omega) (by rw [HSS.out]; exact HF.out.below BB.out))
  rw [HSS.out] at HCALL
  have HLN := Lib.hid hLn
  clear hnd hN hv hLn
  go_enter Tryd.func34, Tryd.ntmps34
  go_wp2_with fail
  clear hW1 hW2 hmk s1 hh z0 z1 z2 zf0 zf1 zf2
  refine HCALL.out.mono ?_
  rintro y w3 ⟨g3, c3, G3, rfl, hp3, he3, hb3⟩
  rw [HSS.out] at hp3
  have HP3 := Lib.hid hp3
  have HE3 := Lib.hid he3
  have HB3 := Lib.hid hb3
  rw [HSS.out]
  clear hp3 he3 hb3
  go_wp2_with fail
  refine (or_any (S + 1) b c g3 c3 F G3 _ ((HF.out.below BB.out).below HB3.out) HP3.out (by omega) (by omega)).mono ?_
  rintro y w4 ⟨g4, c4, rfl, hp4, hb4⟩
  have HP4 := Lib.hid hp4
  have HB4 := Lib.hid ((BB.out.trans (HB3.out.mono BB.out.size)).trans (hb4.mono (Nat.le_trans BB.out.size HB3.out.size)))
  clear hp4 hb4
  go_wp2_with fail
  go_ret
  exact en_ret HSS.out HP4.out (ends_or (ends_eps L F) (HE3.out.iff HLN.out)) HB4.out
theorem gaps_congr {O O' : Nat → Bool} : ∀ n, (∀ i, i < n → O i = O' i) → gaps O n = gaps O' n
  | 0, _ => rfl
  | n + 1, h => by
    unfold gaps
    rw [gaps_congr n (fun i hi => h i (by omega)), h n (by omega)]
def boolAt (w : World) (g i : Nat) : Bool := match w.cell? ⟨g, i, none⟩ with
  | some (.bool x) => x
  | _ => false
/-- how many places are not there yet, and whether there is more -/
def msO (S : Nat) (w : World) (v7 v12 : Value) : Nat := match v12 with
  | .bool true => (match v7 with
    | .slice (some a) _ _ => gaps (boolAt w a.block) (S + 1) + 1
    | _ => 0)
  | _ => 0
theorem msO_at {S g cc : Nat} {w : World} {O : Nat → Bool} (h : Pb w g (S + 1) O) : msO S w (.slice (some ⟨g, 0, none⟩) (S + 1) cc) (.bool true) = gaps O (S + 1) + 1 := by
  show gaps (boolAt w g) (S + 1) + 1 = _
  rw [gaps_congr (S + 1) (O' := O) (fun i hi => by unfold boolAt; rw [h i hi])]
theorem msO_no {S : Nat} {w : World} {v7 : Value} : msO S w v7 (.bool false) = 0 := rfl
def EdRel (w0 : World) (S : Nat) (O O' : Nat → Bool) (v12 v14 : Value) (wr : World) : Prop :=
  ∃ i : Nat, v12 = .bool (difB O O' i) ∧ v14 = .int .i64 (i : Int) ∧ i ≤ S + 1 ∧ Below w0.heap.size w0 wr
def EsRel (a M : Bs → Prop) (st : Bool) (kd : ByteArray) (w : World) (F : Nat → Bool) (L : Bs) (S h : Nat) (v : Value) (v7 v11 v12 : Value) (wr : World) : Prop :=
  ∃ (g1 c1 g2 c2 : Nat) (O N : Nat → Bool) (m : Bool), v7 = .slice (some ⟨g1, 0, none⟩) (S + 1) c1 ∧ v11 = .slice (some ⟨g2, 0, none⟩) (S + 1) c2 ∧ v12 = .bool m ∧ Pb wr g1 (S + 1) O ∧ Pb wr g2 (S + 1) N ∧ Rnd a M L F O N ∧ (st = true → ∀ j, j ≤ L.length → F j = true → O j = true) ∧ (m = false → EndsOk M L F O) ∧ Nb wr h kd nvo v ∧ Below w.heap.size w wr
set_option maxHeartbeats 4000000 in
set_option maxRecDepth 100000 in
theorem ends_star1 (l : Nd) (Q : KidQ l) : EnQ (.star l) := by
  intro w U V s L F b c hV hs hL hF
  obtain ⟨C, A, c2, rfl, hIL, hC, hA, hK⟩ := hV
  obtain ⟨S, hS⟩ : ∃ S, L.length = S := ⟨_, rfl⟩
  have hsz : s.size = S := by rw [hs, tx_size, hS]
  obtain ⟨h, hh⟩ : ∃ h, w.heap.size = h := ⟨_, rfl⟩
  obtain ⟨W1, hW1⟩ : ∃ W1, w.alloc (.cells #[.string ⟨#[42]⟩, .slice none 0 0, .slice A 1 c2] 60 (0, 0)) = W1 := ⟨_, rfl⟩
  obtain ⟨W2, hW2⟩ : ∃ W2, W1.alloc (.cells (boA (S + 1)) 4) = W2 := ⟨_, rfl⟩
  have s1 : W1.heap.size = h + 1 := by rw [← hW1, ← hh]; simp
  have B1 : Below w.heap.size w W1 := hW1 ▸ (Below.refl _ _).alloc (Nat.le_refl _) _
  have B2 : Below W1.heap.size W1 W2 := hW2 ▸ (Below.refl _ _).alloc (Nat.le_refl _) _
  have n1 : Nb W1 h ⟨#[42]⟩ nvo (.slice A 1 c2) := hh ▸ hW1 ▸ Nb.new w _ _ _
  have N2 := Lib.hid (n1.below B2)
  have BB := Lib.hid (B1.trans (B2.mono B1.size))
  have P2 := new_bools W1 (S + 1)
  rw [hW2, s1] at P2
  have PZ := Lib.hid P2.1
  have hmk : ∀ W : World, (Instr.makeSlice 57 (.int .i64 ((S : Int) + 1)) (.int .i64 ((S : Int) + 1))).run Tryd.prog W = .ok (.slice (some ⟨W.heap.size, 0, none⟩) (S + 1) (S + 1)) (W.alloc (.cells (boA (S + 1)) 4)) := fun W => make_bools (S + 1) (by omega) W
  have hS2 : S ≤ 1000 := by omega
  rw [hS] at hF
  have HF := Lib.hid hF
  have HSS := Lib.hid hS
  have HST := Lib.hid hs
  have HC := Lib.hid hC
  have HA := Lib.hid hA
  have HK := Lib.hid hK
  have HIL := Lib.hid hIL
  have HQ := Lib.hid Q
  rw [hS]
  obtain ⟨⟨z0, z1, z2⟩, zf0, zf1, zf2⟩ := N2.out.cells
  clear B1 B2 n1 P2 hF hS hL hs hC hA hK hIL Q
  obtain ⟨b0, kd, ha, ka, nd, hA0, hnd, hLn, hN, k0, k1, k2, hv⟩ := kid_one HIL.out HC.out HA.out HK.out
  subst hA0
  have HKC := Lib.hid (And.intro k0 (And.intro k1 k2))
  have HV := Lib.hid hv
  have HND := Lib.hid (And.intro hnd hN)
  have HLN := Lib.hid hLn
  have R0 := Lib.hid (show EsRel (Ln l).2 (Many (Ln l).2) true ⟨#[42]⟩ w F L S h (.slice (some ⟨b0, 0, none⟩) 1 c2) (.slice (some ⟨b, 0, none⟩) (S + 1) c) (.slice (some ⟨b, 0, none⟩) (S + 1) c) (.bool true) W2 from ⟨b, c, b, c, F, F, true, rfl, rfl, rfl, HF.out.below BB.out, HF.out.below BB.out, Rnd.star0 _ L F, fun _ j _ h => h, (fun h => by cases h), N2.out, BB.out⟩)
  clear hnd hN hv hLn k0 k1 k2
  go_enter Tryd.func34, Tryd.ntmps34
  go_wp2_with fail
  clear hW1 hW2 hmk s1 hh z0 z1 z2 zf0 zf1 zf2
  go_loopw [7, 11, 12] (fun v7 v11 v12 wr => Hid (EsRel (Ln l).2 (Many (Ln l).2) true ⟨#[42]⟩ w F L S h (.slice (some ⟨b0, 0, none⟩) 1 c2) v7 v11 v12 wr)) (fun v7 _ v12 wr => msO S wr v7 v12)
  case atStart => exact R0
  case round =>
    clear R0
    obtain ⟨g1, c1, g2, c3, O, N, m, rfl, rfl, rfl, hp1, hp2, hrn, hfo, hm, hn, hb⟩ := hrel.out
    clear hrel
    have HP1 := Lib.hid hp1
    have HP2 := Lib.hid hp2
    have HRN := Lib.hid hrn
    have HFO := Lib.hid hfo
    have HM := Lib.hid hm
    have HNB := Lib.hid hn
    have HB := Lib.hid hb
    obtain ⟨⟨z0, z1, z2⟩, zf0, zf1, zf2⟩ := hn.cells
    cases m with
    | false =>
      clear hp1 hp2 hrn hfo hm hn hb
      go_wp2_with fail
      go_ret
      exact en_ret HSS.out HP1.out (HM.out (by simp)) HB.out
    | true =>
      have k0 := cell_below HKC.out.1 hb
      have k1 := cell_below HKC.out.2.1 hb
      have k2 := cell_below HKC.out.2.2 hb
      have MS := Lib.hid (msO_at (cc := c1) hp1)
      have HCALL := Lib.hid (HQ.out nd HND.out.1 HND.out.2 wr U _ s L N g2 c3 (HV.out.below hb) HST.out (by have := HSS.out; omega) (by rw [HSS.out]; exact hp2))
      rw [HSS.out] at HCALL
      clear hp1 hp2 hrn hfo hm hn hb
      go_wp2_with fail
      refine HCALL.out.mono ?_
      rintro y w3 ⟨g3, c3', N3, rfl, hp3, he3, hb3⟩
      rw [HSS.out] at hp3
      have HP3 := Lib.hid hp3
      have HE3 := Lib.hid he3
      have HE3L := Lib.hid (he3.iff HLN.out)
      have HB3 := Lib.hid hb3
      rw [HSS.out]
      clear hp3 he3 hb3
      go_wp2_with fail
      refine (or_any (S + 1) g1 c1 g3 c3' O N3 _ (HP1.out.below HB3.out) HP3.out (by omega) (by omega)).mono ?_
      rintro y w4 ⟨g4, c4, rfl, hp4, hb4⟩
      obtain ⟨O', hO'⟩ : ∃ O', (fun i => O i || N3 i) = O' := ⟨_, rfl⟩
      have HOE := Lib.hid (show ∀ i, O' i = (O i || N3 i) from fun i => by rw [← hO'])
      rw [hO'] at hp4
      have HP4 := Lib.hid hp4
      have HB4 := Lib.hid hb4
      have R1 := Lib.hid (show EdRel w4 S O O' (.bool false) (.int .i64 ((0 : Nat) : Int)) w4 from ⟨0, rfl, rfl, by omega, Below.refl _ _⟩)
      clear hp4 hb4 hO'
      go_wp2_with fail
      obtain ⟨wA, hwA⟩ : ∃ W, W = wr := ⟨_, rfl⟩
      subst hwA
      go_loopw [12, 14] (fun v12 v14 wr => Hid (EdRel w4 S O O' v12 v14 wr)) (fun _ v14 _ => S + 1 - (intOf v14).toNat)
      case atStart => exact R1
      case round =>
        clear R1
        obtain ⟨i, rfl, rfl, hi, hb5⟩ := hrel.out
        clear hrel
        have HB5 := Lib.hid hb5
        have HI := Lib.hid hi
        by_cases hlt : i < S + 1
        · have hki : (i : Int) < (S : Int) + 1 := by omega
          have hki2 : ¬ (S : Int) + 1 ≤ (i : Int) := by omega
          have hi63 : i ≤ 2000 := by omega
          have o1 := (((HP1.out.below HB3.out).below HB4.out).below hb5) i hlt
          have o2 := (HP4.out.below hb5) i hlt
          have HLT := Lib.hid hlt
          obtain ⟨x, hx⟩ : ∃ x, O i = x := ⟨_, rfl⟩
          obtain ⟨y, hy⟩ : ∃ y, O' i = y := ⟨_, rfl⟩
          obtain ⟨z, hz⟩ : ∃ z, difB O O' i = z := ⟨_, rfl⟩
          have HD := Lib.hid (show difB O O' (i + 1) = (z || (y != x)) by unfold difB; rw [hz, hy, hx])
          rw [hx] at o1
          rw [hy] at o2
          rw [hz]
          clear hb5 hi hlt hx hy hz
          cases z
          case true =>
            go_wp2_with fail
            go_quiet (fail)
            go_wp2_with fail
            go_roundw
            case rel => exact Lib.hid ⟨i + 1, by rw [HD.out]; rfl, by go_num, by have := HLT.out; omega, below_drewN HB5.out _⟩
            case measure => simp [intOf]; have := HLT.out; omega
          case false =>
            cases x <;> cases y
            all_goals
              go_wp2_with fail
              go_quiet (fail)
              go_wp2_with fail
              go_roundw
              case rel => exact Lib.hid ⟨i + 1, by rw [HD.out]; rfl, by go_num, by have := HLT.out; omega, below_drewN HB5.out _⟩
              case measure => simp [intOf]; have := HLT.out; omega
        · obtain rfl : i = S + 1 := by omega
          have hki : ¬ (((S + 1 : Nat)) : Int) < (S : Int) + 1 := by omega
          obtain ⟨z, hz⟩ : ∃ z, difB O O' (S + 1) = z := ⟨_, rfl⟩
          have HZ := Lib.hid hz
          rw [hz]
          have HB6 := Lib.hid (((HB.out.trans (HB3.out.mono HB.out.size)).trans (HB4.out.mono (Nat.le_trans HB.out.size HB3.out.size))).trans (hb5.mono (Nat.le_trans (Nat.le_trans HB.out.size HB3.out.size) HB4.out.size)))
          have HP6 := Lib.hid (HP4.out.below hb5)
          have HN6 := Lib.hid (((HNB.out.below HB3.out).below HB4.out).below hb5)
          have HP7 := Lib.hid ((HP3.out.below HB4.out).below hb5)
          clear hb5 hi hlt hz
          go_wp2_with fail
          go_roundw
          case rel =>
            refine Lib.hid ⟨g4, c4, g3, c3', O', N3, z, rfl, rfl, rfl, HP6.out, HP7.out, HRN.out.step HE3L.out (fun u v h1 h2 => many_snoc h1 h2) (fun j _ => HOE.out j), (fun _ j hj h1 => by rw [HOE.out j, HFO.out (by simp) j hj h1]; rfl), fun hz0 => ?_, HN6.out, HB6.out⟩
            have hs := difB_no (HZ.out.trans hz0)
            have hf := HRN.out.star (HFO.out (by simp)) HE3L.out (fun j hj => by
              have h1 := hs j (by have := HSS.out; omega)
              have h2 := HOE.out j
              rw [h1] at h2
              exact h2)
            exact hf.congr (fun _ _ => rfl) (fun j hj => hs j (by have := HSS.out; omega))
          case measure =>
            rw [MS.out]
            cases z with
            | false => rw [msO_no]; omega
            | true =>
              rw [msO_at HP6.out]
              obtain ⟨k, hk, hne⟩ := difB_yes HZ.out
              have h2 := HOE.out k
              have hOk : O k = false := by
                cases h3 : O k with
                | false => rfl
                | true => rw [h3] at h2 hne; exact absurd h2 hne
              have := gaps_lt (O := O) (O' := O') (S + 1) k hk (fun i _ h => by rw [HOE.out i, h]; rfl) hOk (by
                cases h4 : O' k with
                | true => rfl
                | false => rw [hOk, h4] at hne; exact absurd rfl hne)
              omega
set_option maxHeartbeats 4000000 in
set_option maxRecDepth 100000 in
theorem ends_plus1 (l : Nd) (Q : KidQ l) : EnQ (.plus l) := by
  intro w U V s L F b c hV hs hL hF
  obtain ⟨C, A, c2, rfl, hIL, hC, hA, hK⟩ := hV
  obtain ⟨S, hS⟩ : ∃ S, L.length = S := ⟨_, rfl⟩
  have hsz : s.size = S := by rw [hs, tx_size, hS]
  obtain ⟨h, hh⟩ : ∃ h, w.heap.size = h := ⟨_, rfl⟩
  obtain ⟨W1, hW1⟩ : ∃ W1, w.alloc (.cells #[.string ⟨#[43]⟩, .slice none 0 0, .slice A 1 c2] 60 (0, 0)) = W1 := ⟨_, rfl⟩
  obtain ⟨W2, hW2⟩ : ∃ W2, W1.alloc (.cells (boA (S + 1)) 4) = W2 := ⟨_, rfl⟩
  have s1 : W1.heap.size = h + 1 := by rw [← hW1, ← hh]; simp
  have B1 : Below w.heap.size w W1 := hW1 ▸ (Below.refl _ _).alloc (Nat.le_refl _) _
  have B2 : Below W1.heap.size W1 W2 := hW2 ▸ (Below.refl _ _).alloc (Nat.le_refl _) _
  have n1 : Nb W1 h ⟨#[43]⟩ nvo (.slice A 1 c2) := hh ▸ hW1 ▸ Nb.new w _ _ _
  have N2 := Lib.hid (n1.below B2)
  have BB := Lib.hid (B1.trans (B2.mono B1.size))
  have P2 := new_bools W1 (S + 1)
  rw [hW2, s1] at P2
  have PZ := Lib.hid P2.1
  have hmk : ∀ W : World, (Instr.makeSlice 57 (.int .i64 ((S : Int) + 1)) (.int .i64 ((S : Int) + 1))).run Tryd.prog W = .ok (.slice (some ⟨W.heap.size, 0, none⟩) (S + 1) (S + 1)) (W.alloc (.cells (boA (S + 1)) 4)) := fun W => make_bools (S + 1) (by omega) W
  have hS2 : S ≤ 1000 := by omega
  rw [hS] at hF
  have HF := Lib.hid hF
  have HSS := Lib.hid hS
  have HST := Lib.hid hs
  have HC := Lib.hid hC
  have HA := Lib.hid hA
  have HK := Lib.hid hK
  have HIL := Lib.hid hIL
  have HQ := Lib.hid Q
  rw [hS]
  obtain ⟨⟨z0, z1, z2⟩, zf0, zf1, zf2⟩ := N2.out.cells
  clear B1 B2 n1 P2 hF hS hL hs hC hA hK hIL Q
  obtain ⟨b0, kd, ha, ka, nd, hA0, hnd, hLn, hN, k0, k1, k2, hv⟩ := kid_one HIL.out HC.out HA.out HK.out
  subst hA0
  have HKC := Lib.hid (And.intro k0 (And.intro k1 k2))
  have HV := Lib.hid hv
  have HND := Lib.hid (And.intro hnd hN)
  have HLN := Lib.hid hLn
  have R0 := Lib.hid (show EsRel (Ln l).2 (fun s => ∃ u v, s = u ++ v ∧ (Ln l).2 u ∧ Many (Ln l).2 v) false ⟨#[43]⟩ w F L S h (.slice (some ⟨b0, 0, none⟩) 1 c2) (.slice (some ⟨h + 1, 0, none⟩) (S + 1) (S + 1)) (.slice (some ⟨b, 0, none⟩) (S + 1) c) (.bool true) W2 from ⟨h + 1, S + 1, b, c, fun _ => false, F, true, rfl, rfl, rfl, PZ.out, HF.out.below BB.out, Rnd.plus0 _ _ L F _ (fun _ _ => rfl), (fun h => by cases h), (fun h => by cases h), N2.out, BB.out⟩)
  clear hnd hN hv hLn k0 k1 k2
  go_enter Tryd.func34, Tryd.ntmps34
  go_wp2_with fail
  clear hW1 hW2 hmk s1 hh z0 z1 z2 zf0 zf1 zf2
  go_loopw [7, 11, 12] (fun v7 v11 v12 wr => Hid (EsRel (Ln l).2 (fun s => ∃ u v, s = u ++ v ∧ (Ln l).2 u ∧ Many (Ln l).2 v) false ⟨#[43]⟩ w F L S h (.slice (some ⟨b0, 0, none⟩) 1 c2) v7 v11 v12 wr)) (fun v7 _ v12 wr => msO S wr v7 v12)
  case atStart => exact R0
  case round =>
    clear R0
    obtain ⟨g1, c1, g2, c3, O, N, m, rfl, rfl, rfl, hp1, hp2, hrn, hfo, hm, hn, hb⟩ := hrel.out
    clear hrel
    have HP1 := Lib.hid hp1
    have HP2 := Lib.hid hp2
    have HRN := Lib.hid hrn
    have HFO := Lib.hid hfo
    have HM := Lib.hid hm
    have HNB := Lib.hid hn
    have HB := Lib.hid hb
    obtain ⟨⟨z0, z1, z2⟩, zf0, zf1, zf2⟩ := hn.cells
    cases m with
    | false =>
      clear hp1 hp2 hrn hfo hm hn hb
      go_wp2_with fail
      go_ret
      exact en_ret HSS.out HP1.out (HM.out (by simp)) HB.out
    | true =>
      have k0 := cell_below HKC.out.1 hb
      have k1 := cell_below HKC.out.2.1 hb
      have k2 := cell_below HKC.out.2.2 hb
      have MS := Lib.hid (msO_at (cc := c1) hp1)
      have HCALL := Lib.hid (HQ.out nd HND.out.1 HND.out.2 wr U _ s L N g2 c3 (HV.out.below hb) HST.out (by have := HSS.out; omega) (by rw [HSS.out]; exact hp2))
      rw [HSS.out] at HCALL
      clear hp1 hp2 hrn hfo hm hn hb
      go_wp2_with fail
      refine HCALL.out.mono ?_
      rintro y w3 ⟨g3, c3', N3, rfl, hp3, he3, hb3⟩
      rw [HSS.out] at hp3
      have HP3 := Lib.hid hp3
      have HE3 := Lib.hid he3
      have HE3L := Lib.hid (he3.iff HLN.out)
      have HB3 := Lib.hid hb3
      rw [HSS.out]
      clear hp3 he3 hb3
      go_wp2_with fail
      refine (or_any (S + 1) g1 c1 g3 c3' O N3 _ (HP1.out.below HB3.out) HP3.out (by omega) (by omega)).mono ?_
      rintro y w4 ⟨g4, c4, rfl, hp4, hb4⟩
      obtain ⟨O', hO'⟩ : ∃ O', (fun i => O i || N3 i) = O' := ⟨_, rfl⟩
      have HOE := Lib.hid (show ∀ i, O' i = (O i || N3 i) from fun i => by rw [← hO'])
      rw [hO'] at hp4
      have HP4 := Lib.hid hp4
      have HB4 := Lib.hid hb4
      have R1 := Lib.hid (show EdRel w4 S O O' (.bool false) (.int .i64 ((0 : Nat) : Int)) w4 from ⟨0, rfl, rfl, by omega, Below.refl _ _⟩)
      clear hp4 hb4 hO'
      go_wp2_with fail
      obtain ⟨wA, hwA⟩ : ∃ W, W = wr := ⟨_, rfl⟩
      subst hwA
      go_loopw [12, 14] (fun v12 v14 wr => Hid (EdRel w4 S O O' v12 v14 wr)) (fun _ v14 _ => S + 1 - (intOf v14).toNat)
      case atStart => exact R1
      case round =>
        clear R1
        obtain ⟨i, rfl, rfl, hi, hb5⟩ := hrel.out
        clear hrel
        have HB5 := Lib.hid hb5
        have HI := Lib.hid hi
        by_cases hlt : i < S + 1
        · have hki : (i : Int) < (S : Int) + 1 := by omega
          have hki2 : ¬ (S : Int) + 1 ≤ (i : Int) := by omega
          have hi63 : i ≤ 2000 := by omega
          have o1 := (((HP1.out.below HB3.out).below HB4.out).below hb5) i hlt
          have o2 := (HP4.out.below hb5) i hlt
          have HLT := Lib.hid hlt
          obtain ⟨x, hx⟩ : ∃ x, O i = x := ⟨_, rfl⟩
          obtain ⟨y, hy⟩ : ∃ y, O' i = y := ⟨_, rfl⟩
          obtain ⟨z, hz⟩ : ∃ z, difB O O' i = z := ⟨_, rfl⟩
          have HD := Lib.hid (show difB O O' (i + 1) = (z || (y != x)) by unfold difB; rw [hz, hy, hx])
          rw [hx] at o1
          rw [hy] at o2
          rw [hz]
          clear hb5 hi hlt hx hy hz
          cases z
          case true =>
            go_wp2_with fail
            go_quiet (fail)
            go_wp2_with fail
            go_roundw
            case rel => exact Lib.hid ⟨i + 1, by rw [HD.out]; rfl, by go_num, by have := HLT.out; omega, below_drewN HB5.out _⟩
            case measure => simp [intOf]; have := HLT.out; omega
          case false =>
            cases x <;> cases y
            all_goals
              go_wp2_with fail
              go_quiet (fail)
              go_wp2_with fail
              go_roundw
              case rel => exact Lib.hid ⟨i + 1, by rw [HD.out]; rfl, by go_num, by have := HLT.out; omega, below_drewN HB5.out _⟩
              case measure => simp [intOf]; have := HLT.out; omega
        · obtain rfl : i = S + 1 := by omega
          have hki : ¬ (((S + 1 : Nat)) : Int) < (S : Int) + 1 := by omega
          obtain ⟨z, hz⟩ : ∃ z, difB O O' (S + 1) = z := ⟨_, rfl⟩
          have HZ := Lib.hid hz
          rw [hz]
          have HB6 := Lib.hid (((HB.out.trans (HB3.out.mono HB.out.size)).trans (HB4.out.mono (Nat.le_trans HB.out.size HB3.out.size))).trans (hb5.mono (Nat.le_trans (Nat.le_trans HB.out.size HB3.out.size) HB4.out.size)))
          have HP6 := Lib.hid (HP4.out.below hb5)
          have HN6 := Lib.hid (((HNB.out.below HB3.out).below HB4.out).below hb5)
          have HP7 := Lib.hid ((HP3.out.below HB4.out).below hb5)
          clear hb5 hi hlt hz
          go_wp2_with fail
          go_roundw
          case rel =>
            refine Lib.hid ⟨g4, c4, g3, c3', O', N3, z, rfl, rfl, rfl, HP6.out, HP7.out, HRN.out.step HE3L.out (fun u v h1 h2 => plus_snoc h1 h2) (fun j _ => HOE.out j), (fun hst => absurd hst (by simp)), fun hz0 => ?_, HN6.out, HB6.out⟩
            have hs := difB_no (HZ.out.trans hz0)
            have hf := HRN.out.plus HE3L.out (fun j hj => by
              have h1 := hs j (by have := HSS.out; omega)
              have h2 := HOE.out j
              rw [h1] at h2
              exact h2)
            exact hf.congr (fun _ _ => rfl) (fun j hj => hs j (by have := HSS.out; omega))
          case measure =>
            rw [MS.out]
            cases z with
            | false => rw [msO_no]; omega
            | true =>
              rw [msO_at HP6.out]
              obtain ⟨k, hk, hne⟩ := difB_yes HZ.out
              have h2 := HOE.out k
              have hOk : O k = false := by
                cases h3 : O k with
                | false => rfl
                | true => rw [h3] at h2 hne; exact absurd h2 hne
              have := gaps_lt (O := O) (O' := O') (S + 1) k hk (fun i _ h => by rw [HOE.out i, h]; rfl) hOk (by
                cases h4 : O' k with
                | true => rfl
                | false => rw [hOk, h4] at hne; exact absurd rfl hne)
              omega
end Go.Proofs.YtnabfganecghkaaDoor
