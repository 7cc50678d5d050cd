/- The walk of the law MatchMissing. -/
import Derived.Test.YtppkejobioadcaaDoorMaT
import Derived.Laws.AppendOwnNone
namespace Go.Proofs.YtppkejobioadcaaDoor
open Go.RowKit Go.Sort
set_option linter.unusedVariables false

theorem getV_more (a : List Lb.Lab) (p : Lb.Lab) (s : ByteArray) (h : p.1 ≠ s) : Lb.getV (a ++ [p]) s = Lb.getV a s := by
  have e : Lb.isN s p = false := by
    unfold Lb.isN
    rw [text_eq]
    simp [h]
  unfold Lb.getV Lb.getK
  rw [List.find?_append, List.find?_cons, e, List.find?_nil, Option.or_none]
theorem allM_more {ms : List Mt} {a : List Lb.Lab} {p : Lb.Lab} (h : ∀ m ∈ ms, m.nm ≠ p.1) : allM ms (a ++ [p]) = allM ms a := by
  unfold allM
  apply Bool.eq_iff_iff.2
  rw [List.all_eq_true, List.all_eq_true]
  exact ⟨fun g m hm => by rw [← getV_more a p m.nm (fun e => h m hm e.symm)]; exact g m hm, fun g m hm => by rw [getV_more a p m.nm (fun e => h m hm e.symm)]; exact g m hm⟩
/-- append([]api.Label{}, y...) -/
theorem app_all {ops : Array Oper} {rest : List Oper} {o : Oper} {a : Act} {w : World} {Q : Exit → Act → World → Prop} (hgd : o.guard = none) (s x : Operand)
    (ho : o.op = .call { callee := .builtin .append, args := #[s, x], argTypes := #[23, 23] })
    (base : Nat) (A : Option Addr) (c : Nat) (hs : a.eval s = .slice A 0 c) (hown : w.ownsRow base 45 2 (.slice A 0 c) 0 (Lb.labC []))
    (B : Option Addr) (m d : Nat) (y : List Lb.Lab) (hx : a.eval x = .slice B m d) (hd : B = none → d = 0) (hy : Lb.Lw w B y) (hm : m = y.length) (hl : m ≤ 4398046510976) (hbase : base ≤ w.heap.size)
    (h : ∀ A' c' w', w'.ownsRow base 45 2 (.slice A' m c') m (Lb.labC y) → w.grownBy w' (Value.slice A 0 c).ownBlock → wpList Tryd.prog ops Q rest (a.put o.dst (.slice A' m c')) w') : wpList Tryd.prog ops Q (o :: rest) a w := by
  subst hm
  obtain ⟨i0, hi, hz0, hz1, hz2⟩ := info_parts Lb.infoL
  cases B with
  | none =>
    have hy0 : y = [] := by
      rcases hy.2.2 with h0 | ⟨_, _, h0, _⟩
      · cases y with
        | nil => rfl
        | cons p r => exact absurd (congrArg List.length h0) (by rw [Lb.labC_length]; simp)
      · cases h0
    subst hy0
    obtain rfl := hd rfl
    exact wpList_append_own_none hgd s x 23 ho base 45 i0 2 Tryd.underlying23 hi _ 0 (Lb.labC []) hs hown hx (h A c w hown (World.grownBy.refl w _))
  | some ad =>
    refine wpList_append_own w hgd s x 23 ho base 45 i0 (.agg #[.string ⟨#[]⟩, .string ⟨#[]⟩]) 2 32 Tryd.underlying23 hi hz0 hz1 hz2 rfl (by decide) _ 0 (Lb.labC []) hs hown ad y.length d (Lb.labC y) hx (Lb.labC_length y) ?_ (Lb.labC_one y) (by unfold maxLen; omega) (by omega) hbase ?_
    · intro j u hu
      exact hy.2.2.src j u hu
    · intro v' w' h1 h2 _
      obtain ⟨A', c', rfl⟩ := own_shape h1
      rw [Nat.zero_add] at h1 ⊢
      exact h A' c' w' h1 h2
theorem own_empty {w W : World} {g base : Nat} (hg : w.heap.size = g) (hW : w.alloc (.cells #[] 45 (0, 0)) = W) (hb : base ≤ w.heap.size) : W.ownsRow base 45 2 (.slice (some ⟨g, 0, none⟩) 0 0) 0 (Lb.labC []) := by
  subst hg hW
  exact World.ownsRow_lit w #[] 0 hb (by unfold maxLen; omega) rfl
theorem lw_of {w : World} {base n c : Nat} {A : Option Addr} {X : List Lb.Lab} (h : w.ownsRow base 45 2 (.slice A n c) n (Lb.labC X)) (hw : Lb.Wl X) (hl : X.length ≤ 4398046510977) : Lb.Lw w A X := ⟨by omega, hw, own_cl h⟩
theorem wl_more {a : List Lb.Lab} {s v : ByteArray} (h : Lb.Wl a) (hs : s.size ≤ 9223372036854775807) (hv : v.size ≤ 9223372036854775807) : Lb.Wl (a ++ [(s, v)]) := by
  intro p hp
  rcases List.mem_append.1 hp with hp | hp
  · exact h p hp
  · simp at hp
    subst hp
    exact ⟨hs, hv⟩
theorem lv_more {a : List Lb.Lab} {s v : ByteArray} (h : Lv a) (hv : v.size ≤ 4611686018427387904) : Lv (a ++ [(s, v)]) := by
  intro p hp
  rcases List.mem_append.1 hp with hp | hp
  · exact h p hp
  · simp at hp
    subst hp
    exact hv
def V1 (w : World) (ms : List Mt) (s : ByteArray) (v : Value) (wr : World) : Prop := ∃ i : Nat, v = .int .i64 (i : Int) ∧ i ≤ ms.length ∧ (∀ m ∈ ms.take i, m.nm ≠ s) ∧ Below w.heap.size w wr
def V2 (w : World) (n : Nat) (v : Value) (wr : World) : Prop := ∃ i : Nat, v = .int .i64 (i : Int) ∧ i ≤ n ∧ Below w.heap.size w wr

set_option maxHeartbeats 8000000 in
set_option maxRecDepth 100000 in
theorem miss_main (A B : Option Addr) (n m c d : Nat) (s : ByteArray) (ms : List Mt) (a : List Lb.Lab) (w : World) (hn : n = ms.length) (hm : m = a.length) (h : Mq w A ms) (ha : Lb.Lw w B a) (hT : Tab w) (hd : B = none → d = 0) (hM : a.length ≤ 4398046510976) :
    Calls Tryd.prog 7 #[.slice A n c, .slice B m d, .string s] w fun e w' => e = .returned (.bool true) ∧ Below w.heap.size w w' := by
  subst hn hm
  have HM := Lib.hid h
  have HA := Lib.hid ha
  have HT := Lib.hid hT
  have HD := Lib.hid hd
  obtain ⟨N, hN⟩ : ∃ N, ms.length = N := ⟨_, rfl⟩
  obtain ⟨M, hMM⟩ : ∃ M, a.length = M := ⟨_, rfl⟩
  have hMb : M ≤ 4398046510976 := by rw [← hMM]; exact hM
  have HN := Lib.hid hN
  have HMM := Lib.hid hMM
  have HLI := Lib.hid (light_any A B N M c d ms a w hN.symm hMM.symm h ha)
  rw [hN, hMM]
  clear h ha hT hN hMM hd hM
  go_enter Tryd.func7, Tryd.ntmps7
  go_wp2_with fail
  refine HLI.out.mono ?_
  rintro y w2 ⟨q, rfl, hsm, hb2⟩
  have HSM := Lib.hid hsm
  have B2 := Lib.hid hb2
  clear hsm hb2
  cases q with
  | false =>
    go_wp2_with fail
    refine (awake_any _ (HT.out.below B2.out)).mono ?_
    rintro y wz ⟨rfl, hbz⟩
    have BZ := Lib.hid (B2.out.trans (hbz.mono B2.out.size))
    clear hbz
    go_wp2_with fail
    go_ret
    exact ⟨rfl, BZ.out⟩
  | true =>
    have HS := Lib.hid (HSM.out (by simp))
    by_cases h16 : 16 < N
    · have h16i : (16 : Int) < (N : Int) := by omega
      clear h16
      go_wp2_with fail
      refine (awake_any _ (HT.out.below B2.out)).mono ?_
      rintro y wz ⟨rfl, hbz⟩
      have BZ := Lib.hid (B2.out.trans (hbz.mono B2.out.size))
      clear hbz
      go_wp2_with fail
      go_ret
      exact ⟨rfl, BZ.out⟩
    have h16i : ¬ (16 : Int) < (N : Int) := by omega
    obtain ⟨E, hE⟩ : ∃ E, newE ms = E := ⟨_, rfl⟩
    have HE := Lib.hid hE
    have HCK := Lib.hid (rcheck_any A N c ms w2 HN.out.symm (HM.out.below B2.out))
    rw [hE] at HCK
    clear hE
    go_wp2_with fail
    refine HCK.out.mono ?_
    rintro y w3 ⟨rfl, hb3⟩
    have B3' := Lib.hid (B2.out.trans (hb3.mono B2.out.size))
    clear hb3
    by_cases hE0 : E = 0
    case neg =>
      have hEb : (E != 0) = true := z_ne 0 hE0
      clear hE0
      go_wp2_with fail
      refine (awake_any _ (HT.out.below B3'.out)).mono ?_
      rintro y wz ⟨rfl, hbz⟩
      have BZ := Lib.hid (B3'.out.trans (hbz.mono B3'.out.size))
      clear hbz
      go_wp2_with fail
      go_ret
      exact ⟨rfl, BZ.out⟩
    subst hE0
    by_cases hs0 : s.size = 0
    · have hs0i : ((s.size : Int) == 0) = true := by simp [hs0]
      clear hs0
      go_wp2_with fail
      refine (awake_any _ (HT.out.below B3'.out)).mono ?_
      rintro y wz ⟨rfl, hbz⟩
      have BZ := Lib.hid (B3'.out.trans (hbz.mono B3'.out.size))
      clear hbz
      go_wp2_with fail
      go_ret
      exact ⟨rfl, BZ.out⟩
    have hs0i : ((s.size : Int) == 0) = false := by simp [hs0]
    by_cases hs60 : 60 < s.size
    · have hs60i : (60 : Int) < (s.size : Int) := by omega
      clear hs60 hs0
      go_wp2_with fail
      refine (awake_any _ (HT.out.below B3'.out)).mono ?_
      rintro y wz ⟨rfl, hbz⟩
      have BZ := Lib.hid (B3'.out.trans (hbz.mono B3'.out.size))
      clear hbz
      go_wp2_with fail
      go_ret
      exact ⟨rfl, BZ.out⟩
    have hs60i : ¬ (60 : Int) < (s.size : Int) := by omega
    have HSZ := Lib.hid (show s.size ≤ 60 by omega)
    have HT1 := Lib.hid (to_any A N c ms w3 HN.out.symm (HM.out.below B3'.out) (by omega))
    clear hs0 hs60
    go_wp2_with fail
    refine HT1.out.mono ?_
    rintro y w5 ⟨A5, c5, rfl, hm5, hb5⟩
    rw [HN.out]
    have HN5 := Lib.hid (new_any A5 N c5 ms w5 HN.out.symm ((HT.out.below B3'.out).below hb5) hm5)
    have B5 := Lib.hid (B3'.out.trans (hb5.mono B3'.out.size))
    clear hm5 hb5
    go_wp2_with fail
    refine HN5.out.mono ?_
    intro y w6 hp
    obtain ⟨g6, rfl, hs6, hb6⟩ := newP_ok hp HE.out
    have HS6 := Lib.hid hs6
    have B6 := Lib.hid (B5.out.trans (hb6.mono B5.out.size))
    clear hp hs6 hb6
    have R0 := Lib.hid (show V1 w6 ms s (.int .i64 ((0 : Nat) : Int)) w6 from ⟨0, rfl, by omega, fun m hm => by simp at hm, Below.refl _ _⟩)
    go_wp2_with fail
    go_loopw [50] (fun v50 wr => Hid (V1 w6 ms s v50 wr)) (fun v50 _ => N - (intOf v50).toNat)
    case atStart => exact R0
    case round =>
      clear R0
      obtain ⟨i, rfl, hi, hall, hbl⟩ := hrel.out
      clear hrel
      have BL := Lib.hid hbl
      have BW := Lib.hid (B6.out.trans (hbl.mono B6.out.size))
      have HALL := Lib.hid hall
      by_cases hlt : i < N
      · have hki : (i : Int) < (N : Int) := by omega
        have hib : i ≤ 16 := by omega
        obtain ⟨x, hx⟩ : ∃ x, ms[i]? = some x := ⟨_, List.getElem?_eq_getElem (by rw [HN.out]; exact hlt)⟩
        obtain ⟨b1, off, hA1, hc⟩ := (HM.out.below BW.out).some_ (by rw [HN.out]; omega)
        subst hA1
        obtain ⟨k0, k1, k2⟩ := hc i x hx
        have HMI := Lib.hid hx
        obtain ⟨nm, op, vl⟩ := x
        obtain ⟨W7, hW7⟩ : ∃ W7, wr.alloc (.cells #[.string nm, .int .i64 op, .string vl] 39 (0, 0)) = W7 := ⟨_, rfl⟩
        obtain ⟨g7, hg7⟩ : ∃ g7, wr.heap.size = g7 := ⟨_, rfl⟩
        have b7 : Below wr.heap.size wr W7 := hW7 ▸ (Below.refl _ _).alloc (Nat.le_refl _) _
        have X7 := Lib.hid (show D3 W7 g7 nm op vl from hg7 ▸ hW7 ▸ D3.new wr _ _ _)
        have B7L := Lib.hid (BL.out.trans (b7.mono BL.out.size))
        have B7W := Lib.hid (BW.out.trans (b7.mono BW.out.size))
        obtain ⟨⟨x0, x1, x2⟩, _⟩ := X7.out.cells
        obtain ⟨q, hq⟩ : ∃ q, decide (nm = s) = q := ⟨_, rfl⟩
        have hqe : (nm.toList == s.toList) = q := (text_eq nm s).trans hq
        have HQ := Lib.hid hq
        have HLT := Lib.hid hlt
        simp only at k0 k1 k2
        clear hall hbl hc hx b7 hlt hi hq
        cases q with
        | true =>
          go_wp2_with fail
          refine (awake_any _ (HT.out.below B7W.out)).mono ?_
          rintro y wz ⟨rfl, hbz⟩
          have BZ := Lib.hid (B7W.out.trans (hbz.mono B7W.out.size))
          clear hbz
          go_wp2_with fail
          go_ret
          exact ⟨rfl, BZ.out⟩
        | false =>
          go_wp2_with fail
          clear hW7 hg7
          go_roundw
          case rel => exact Lib.hid ⟨i + 1, by go_num, by have := HLT.out; have := HN.out; omega, mem_take HALL.out HMI.out (by show nm ≠ s; exact of_decide_eq_false HQ.out), B7L.out⟩
          case measure => simp [intOf]; have := HLT.out; omega
      · obtain rfl : i = N := by have := HN.out; omega
        have hki : ¬ ((i : Nat) : Int) < (i : Int) := by omega
        have HALL2 := Lib.hid (mem_all HALL.out (by have := HN.out; omega))
        have R1 := Lib.hid (show V2 w6 M (.int .i64 ((0 : Nat) : Int)) wr from ⟨0, rfl, by omega, BL.out⟩)
        clear hall hbl
        go_wp2_with fail
        go_loopw [62] (fun v62 wr => Hid (V2 w6 M v62 wr)) (fun v62 _ => M - (intOf v62).toNat)
        case atStart => exact R1
        case round =>
          clear R1
          obtain ⟨j, rfl, hj, hbl⟩ := hrel.out
          clear hrel
          have BL2 := Lib.hid hbl
          have BW2 := Lib.hid (B6.out.trans (hbl.mono B6.out.size))
          by_cases hlt2 : j < M
          · have hkj : (j : Int) < (M : Int) := by omega
            have hjb : j < 9223372036854775807 := by omega
            obtain ⟨p, hp⟩ : ∃ p, a[j]? = some p := ⟨_, List.getElem?_eq_getElem (by rw [HMM.out]; exact hlt2)⟩
            obtain ⟨b, off, rfl, hc⟩ := (HA.out.below BW2.out).some_ (by rw [HMM.out]; omega)
            obtain ⟨k0, k1⟩ := hc j p hp
            obtain ⟨nm, t⟩ := p
            obtain ⟨W7, hW7⟩ : ∃ W7, wr.alloc (.cells #[.string nm, .string t] 45 (0, 0)) = W7 := ⟨_, rfl⟩
            obtain ⟨g7, hg7⟩ : ∃ g7, wr.heap.size = g7 := ⟨_, rfl⟩
            have b7 : Below wr.heap.size wr W7 := hW7 ▸ (Below.refl _ _).alloc (Nat.le_refl _) _
            have B7L := Lib.hid (BL2.out.trans (b7.mono BL2.out.size))
            have B7W := Lib.hid (BW2.out.trans (b7.mono BW2.out.size))
            obtain ⟨x0, x1⟩ := lb_box2 hg7 hW7
            obtain ⟨q, hq⟩ : ∃ q, decide (nm = s) = q := ⟨_, rfl⟩
            have hqe : (nm.toList == s.toList) = q := (text_eq nm s).trans hq
            have HLT := Lib.hid hlt2
            simp only at k0 k1
            clear hbl hc hp b7 hlt2 hj hq
            cases q with
            | true =>
              go_wp2_with fail
              refine (awake_any _ (HT.out.below B7W.out)).mono ?_
              rintro y wz ⟨rfl, hbz⟩
              have BZ := Lib.hid (B7W.out.trans (hbz.mono B7W.out.size))
              clear hbz
              go_wp2_with fail
              go_ret
              exact ⟨rfl, BZ.out⟩
            | false =>
              go_wp2_with fail
              clear hW7 hg7
              go_roundw
              case rel => exact Lib.hid ⟨j + 1, by go_num, by have := HLT.out; omega, B7L.out⟩
              case measure => simp [intOf]; have := HLT.out; omega
          · obtain rfl : j = M := by omega
            have hkj : ¬ ((j : Nat) : Int) < (j : Int) := by omega
            have HJ := Lib.hid hMb
            obtain ⟨W9, hW9⟩ : ∃ W9, wr.alloc (.cells #[] 45 (0, 0)) = W9 := ⟨_, rfl⟩
            obtain ⟨g9, hg9⟩ : ∃ g9, wr.heap.size = g9 := ⟨_, rfl⟩
            have b9 : Below wr.heap.size wr W9 := hW9 ▸ (Below.refl _ _).alloc (Nat.le_refl _) _
            have B9 := Lib.hid b9
            have O9 := Lib.hid (own_empty hg9 hW9 (Nat.le_refl wr.heap.size))
            have L9 := Lib.hid ((HA.out.below BW2.out).below b9)
            have LW := Lib.hid (HA.out.below BW2.out)
            clear hbl b9
            go_wp2_with (first
              | (at_builtin; refine app_all rfl _ _ rfl wr.heap.size (some ⟨g9, 0, none⟩) 0 rfl O9.out B j d a rfl HD.out L9.out HMM.out.symm HJ.out B9.out.size ?_; intro A10 c10 w10 ho10 hg10; have O10 := Lib.hid ho10; have B10 := Lib.hid (B9.out.grown hg10 B9.out.size (fun k hk => (O9.out.lt k hk).1)); clear ho10 hg10)
              | (at_builtin; refine Lb.put_lab rfl _ _ rfl wr.heap.size A10 j c10 a rfl O10.out B10.out B10.out.size (by have := HJ.out; omega) _ rfl rfl (s, ⟨#[118]⟩) ?_; intro A11 c11 w11 ho11 hb11 hz11; have O11 := Lib.hid ho11; have B11 := Lib.hid hb11; clear ho11 hb11 hz11
                 obtain ⟨W12, hW12⟩ : ∃ W12, w11.alloc (.cells #[] 45 (0, 0)) = W12 := ⟨_, rfl⟩
                 obtain ⟨g12, hg12⟩ : ∃ g12, w11.heap.size = g12 := ⟨_, rfl⟩
                 have b12 : Below w11.heap.size w11 W12 := hW12 ▸ (Below.refl _ _).alloc (Nat.le_refl _) _
                 have B12 := Lib.hid b12
                 have O12 := Lib.hid (own_empty hg12 hW12 (Nat.le_refl w11.heap.size))
                 have L12 := Lib.hid ((LW.out.below B11.out).below b12)
                 clear b12)
              | (at_builtin; refine app_all rfl _ _ rfl w11.heap.size (some ⟨g12, 0, none⟩) 0 rfl O12.out B j d a rfl HD.out L12.out HMM.out.symm HJ.out B12.out.size ?_; intro A13 c13 w13 ho13 hg13; have O13 := Lib.hid ho13; have B13 := Lib.hid (B12.out.grown hg13 B12.out.size (fun k hk => (O12.out.lt k hk).1)); clear ho13 hg13)
              | (at_builtin; refine Lb.put_lab rfl _ _ rfl w11.heap.size A13 j c13 a rfl O13.out B13.out B13.out.size (by have := HJ.out; omega) _ rfl rfl (s, ⟨#[]⟩) ?_; intro A14 c14 w14 ho14 hb14 hz14; have O14 := Lib.hid ho14; have B14 := Lib.hid hb14; clear ho14 hb14 hz14))
            clear hW9 hg9 hW12 hg12
            have BR := Lib.hid (B11.out.trans (B14.out.mono B11.out.size))
            have BX := Lib.hid (BW2.out.trans (BR.out.mono BW2.out.size))
            have P14 := Lib.hid (own_below O11.out B14.out)
            have SX := Lib.hid ((HS6.out.below BL2.out).below BR.out)
            refine (awake_any _ (HT.out.below BX.out)).mono ?_
            rintro y wz ⟨rfl, hbz⟩
            have BZ := Lib.hid (BX.out.trans (hbz.mono BX.out.size))
            have SZ := Lib.hid (SX.out.below hbz)
            obtain ⟨z, hz⟩ : ∃ z, allM ms a = z := ⟨_, rfl⟩
            have HZ := Lib.hid hz
            have HZ1 := Lib.hid (show allM ms (a ++ [(s, ⟨#[118]⟩)]) = z from (allM_more HALL2.out).trans hz)
            have HZ2 := Lib.hid (show allM ms (a ++ [(s, ⟨#[]⟩)]) = z from (allM_more HALL2.out).trans hz)
            have W1 := Lib.hid (show Lb.Wl (a ++ [(s, ⟨#[118]⟩)]) from wl_more HA.out.2.1 (by have := HSZ.out; omega) (by decide))
            have W2' := Lib.hid (show Lb.Wl (a ++ [(s, ⟨#[]⟩)]) from wl_more HA.out.2.1 (by have := HSZ.out; omega) (by decide))
            have H1 := Lib.hid (match_sel g6 ms A11 (j + 1) c11 (a ++ [(s, ⟨#[118]⟩)]) wz (HT.out.below BZ.out) SZ.out (by rw [List.length_append, HMM.out]; rfl) ((lw_of P14.out W1.out (by rw [List.length_append, HMM.out]; have := HJ.out; simp; omega)).below hbz) (lv_more HS.out.lv (by decide)))
            rw [HZ1.out] at H1
            have Q14 := Lib.hid ((lw_of O14.out W2'.out (by rw [List.length_append, HMM.out]; have := HJ.out; simp; omega)).below hbz)
            clear hbz hz
            go_wp2_with fail
            refine H1.out.mono ?_
            rintro y w16 ⟨rfl, hb16⟩
            have B16 := Lib.hid (BZ.out.trans (hb16.mono BZ.out.size))
            have S16 := Lib.hid (SZ.out.below hb16)
            have Q16 := Lib.hid (Q14.out.below hb16)
            have H2 := Lib.hid (match_sel g6 ms B j d a w16 (HT.out.below B16.out) S16.out HMM.out.symm (HA.out.below B16.out) HS.out.lv)
            rw [HZ.out] at H2
            clear hb16
            go_wp2_with fail
            refine H2.out.mono ?_
            rintro y w17 ⟨rfl, hb17⟩
            have B17 := Lib.hid (B16.out.trans (hb17.mono B16.out.size))
            have S17 := Lib.hid (S16.out.below hb17)
            have H3 := Lib.hid (match_sel g6 ms A14 (j + 1) c14 (a ++ [(s, ⟨#[]⟩)]) w17 (HT.out.below B17.out) S17.out (by rw [List.length_append, HMM.out]; rfl) (Q16.out.below hb17) (lv_more HS.out.lv (by decide)))
            rw [HZ2.out] at H3
            clear hb17
            have hzz : (z == z) = true := by simp
            go_wp2_with fail
            refine H3.out.mono ?_
            rintro y w18 ⟨rfl, hb18⟩
            have B18 := Lib.hid (B17.out.trans (hb18.mono B17.out.size))
            have H4 := Lib.hid (match_sel g6 ms B j d a w18 (HT.out.below B18.out) (S17.out.below hb18) HMM.out.symm (HA.out.below B18.out) HS.out.lv)
            rw [HZ.out] at H4
            clear hb18
            go_wp2_with fail
            refine H4.out.mono ?_
            rintro y w19 ⟨rfl, hb19⟩
            have B19 := Lib.hid (B18.out.trans (hb19.mono B18.out.size))
            clear hb19
            cases z
            all_goals
              go_wp2_with fail
              go_ret
              exact ⟨rfl, B19.out⟩
end Go.Proofs.YtppkejobioadcaaDoor
