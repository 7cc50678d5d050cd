/- The law RankAll: its walk. -/
import Derived.Test.YtbibhjcmdehdbaaRkU
import Derived.Outline
namespace Go.Proofs.Ytbibhjcmdehdbaa
open Go.RowKit Go.Sort
set_option linter.unusedVariables false

def RaS (w : World) (hv : Array Value) (A B A1 : Option Addr) (P Q : List (Int × Int)) (l : List Cel) (wr : World) : Prop :=
  Rb wr w.heap.size 25 hv ∧ (Bk wr A P ∧ Bk wr B Q) ∧ Cs wr A1 l ∧ Below w.heap.size w wr
theorem RaS.below {w : World} {hv : Array Value} {A B A1 : Option Addr} {P Q : List (Int × Int)} {l : List Cel} {wr w2 : World} (h : RaS w hv A B A1 P Q l wr) (hb : Below wr.heap.size wr w2) : RaS w hv A B A1 P Q l w2 :=
  ⟨h.1.below hb, ⟨h.2.1.1.below hb, h.2.1.2.below hb⟩, h.2.2.1.below hb, h.2.2.2.trans (hb.mono h.2.2.2.size)⟩
set_option maxHeartbeats 4000000 in
set_option maxRecDepth 100000 in
theorem rankAll_walk (h : HV) (A B : Option Addr) (c d : Nat) (w : World) (hP : Bk w A h.P) (hQ : Bk w B h.Q) (z0 : 0 ≤ h.zc) (z1 : h.zc ≤ 18446744073709551615) (hsm : inI64 h.sm) :
    Calls Try.prog 9 #[.agg #[.int .i64 h.k, .int .i64 h.s, .int .i64 h.z, .int .u64 h.zc, .int .u64 h.ct, .int .i64 h.sm, .slice A h.P.length c, .slice B h.Q.length d]] w fun e w' => e = .returned (.bool true) ∧ Below w.heap.size w w' := by
  have hb0 : Below w.heap.size w (w.alloc (.cells #[.int .i64 h.k, .int .i64 h.s, .int .i64 h.z, .int .u64 h.zc, .int .u64 h.ct, .int .i64 h.sm, .slice A h.P.length c, .slice B h.Q.length d] 25)) := (Below.refl _ _).alloc (Nat.le_refl _) _
  have HB0 := Lib.hid hb0
  have HX0 := Lib.hid (Rb.new w w.heap.size rfl 25 #[.int .i64 h.k, .int .i64 h.s, .int .i64 h.z, .int .u64 h.zc, .int .u64 h.ct, .int .i64 h.sm, .slice A h.P.length c, .slice B h.Q.length d])
  have HK0 := Lib.hid (And.intro (hP.below hb0) (hQ.below hb0))
  have HW := Lib.hid (And.intro hP.2.1 hQ.2.1)
  have HZ := Lib.hid (And.intro (And.intro z0 z1) hsm)
  clear hP hQ hb0 z0 z1 hsm
  go_enter Try.func9, Try.ntmps9
  go_upto_region 1 with fail
  generalize (w.alloc (.cells #[.int .i64 h.k, .int .i64 h.s, .int .i64 h.z, .int .u64 h.zc, .int .u64 h.ct, .int .i64 h.sm, .slice A h.P.length c, .slice B h.Q.length d] 25)) = w0 at *
  obtain ⟨x0, x1, x2, x3, x4, x5, x6, x7⟩ := HX0.out.eight
  have xl := HX0.out.lt
  go_wp2_with fail
  refine (right08 h A B c d w0 HK0.out.1 HK0.out.2 HZ.out.1.1 HZ.out.1.2).mono ?_
  rintro e w1 ⟨rfl, hb1⟩
  clear x0 x1 x2 x3 x4 x5 x6 x7 xl
  have HX1 := Lib.hid (HX0.out.below hb1)
  have HB1 := Lib.hid (HB0.out.trans (hb1.mono HB0.out.size))
  have HK1 := Lib.hid (And.intro (HK0.out.1.below hb1) (HK0.out.2.below hb1))
  clear HB0 HX0 HK0
  clear hb1
  rcases hf : fewK h with _ | _
  · clear hf
    go_wp2_with fail
    refine (awake08 w1).mono ?_
    rintro e wz ⟨rfl, hbz⟩
    have HBz := Lib.hid (HB1.out.trans (hbz.mono HB1.out.size))
    clear hbz
    go_wp2_with fail
    go_ret
    exact ⟨rfl, HBz.out⟩
  · have HO := Lib.hid (fewK_ok hf HZ.out.1.1 HZ.out.2 HW.out.1 HW.out.2)
    clear hf
    obtain ⟨x0, x1, x2, x3, x4, x5, x6, x7⟩ := HX1.out.eight
    have xl := HX1.out.lt
    by_cases hc : 500 < h.ct
    · go_wp2_with fail
      refine (awake08 w1).mono ?_
      rintro e wz ⟨rfl, hbz⟩
      have HBz := Lib.hid (HB1.out.trans (hbz.mono HB1.out.size))
      clear hbz
      go_wp2_with fail
      go_ret
      exact ⟨rfl, HBz.out⟩
    · go_wp2_with fail
      have hct0 := ct_nn HO.out
      refine (order_any h A B c d w1 HK1.out.1 HK1.out.2 HO.out).mono ?_
      rintro e w2 ⟨A1, c1, rfl, hcs, hb2, hnw⟩
      clear x0 x1 x2 x3 x4 x5 x6 x7 xl
      have HX2 := Lib.hid (HX1.out.below hb2)
      have HB2 := Lib.hid (HB1.out.trans (hb2.mono HB1.out.size))
      have HK2 := Lib.hid (And.intro (HK1.out.1.below hb2) (HK1.out.2.below hb2))
      clear HB1 HX1 HK1
      obtain ⟨l, hl⟩ : ∃ l, ordF h = l := ⟨_, rfl⟩
      rw [hl] at hcs
      rw [hl]
      have hll : (l.length : Int) ≤ 1025 := by have := ord_len HO.out; rw [hl] at this; omega
      have HL := Lib.hid (show (∀ p ∈ l, CelOk p ∧ 0 ≤ p.n) ∧ totC l = h.ct from by rw [← hl]; exact ⟨ord_cel HO.out, tot_ord HO.out⟩)
      have HLE := Lib.hid hl
      have HSt := Lib.hid (show RaS w #[.int .i64 h.k, .int .i64 h.s, .int .i64 h.z, .int .u64 h.zc, .int .u64 h.ct, .int .i64 h.sm, .slice A h.P.length c, .slice B h.Q.length d] A B A1 h.P h.Q l w2 from ⟨HX2.out, HK2.out, hcs, HB2.out⟩)
      clear hb2 hcs hnw hl HX2 HK2 HB2
      go_wp2_with fail
      go_loopw [4, 26] (fun n i wr => ∃ (k : Nat) (x : Int), k ≤ l.length ∧ n = .int .u64 x ∧ i = .int .i64 k ∧ (0 ≤ x ∧ x ≤ h.ct) ∧ Hid (x = totC (l.take k)) ∧ Hid (RaS w #[.int .i64 h.k, .int .i64 h.s, .int .i64 h.z, .int .u64 h.zc, .int .u64 h.ct, .int .i64 h.sm, .slice A h.P.length c, .slice B h.Q.length d] A B A1 h.P h.Q l wr)) (fun _ i _ => l.length - (intOf i).toNat)
      case atStart => exact ⟨0, 0, by omega, rfl, rfl, by omega, Lib.hid (by simp [totC]), HSt⟩
      case round =>
        obtain ⟨k, x, hk, rfl, rfl, hx, HF, HS⟩ := hrel
        by_cases hlt : k < l.length
        · have hki : (k : Int) < (l.length : Int) := by omega
          obtain ⟨b, off, rfl, hcell⟩ := HS.out.2.2.1.some_ (by omega)
          obtain ⟨p, hp⟩ := getElem?_lt hlt
          obtain ⟨q0, q1, q2, q3⟩ := hcell k p hp
          have hpn := (HL.out.1 p (mem_of_at hp)).1.n
          have hpn0 := (HL.out.1 p (mem_of_at hp)).2
          have HP := Lib.hid hp
          have HT := Lib.hid (totC_succ hp)
          have hup : x + p.n ≤ h.ct := by
            have h1 := totC_all (l := l) (fun p hp => (HL.out.1 p hp).2) (k + 1)
            rw [HT.out, ← HF.out, HL.out.2] at h1
            exact h1
          have hlb := block_lt_of_cell q0
          simp only at hlb
          clear hcell hp
          go_upto_region 8 with fail
          clear q0 q1 q2 q3 hlb
          have hbA : Below wr.heap.size wr (wr.alloc (.cells #[.int .i64 p.d, .int .i64 p.s, .int .i64 p.i, .int .u64 p.n] 50)) := (Below.refl _ _).alloc (Nat.le_refl _) _
          obtain ⟨gc, hgc⟩ : ∃ g, wr.heap.size = g := ⟨_, rfl⟩
          have HCA := Lib.hid (Rb.new wr gc hgc 50 #[.int .i64 p.d, .int .i64 p.s, .int .i64 p.i, .int .u64 p.n])
          have HSA := Lib.hid (HS.out.below hbA)
          rw [hgc]
          clear hbA hgc HS HSt
          generalize wr.alloc (.cells #[.int .i64 p.d, .int .i64 p.s, .int .i64 p.i, .int .u64 p.n] 50) = wA at *
          obtain ⟨y0, y1, y2, y3⟩ := HCA.out.four
          have ly := HCA.out.lt
          have hmin : min p.n 501 = p.n := by omega
          go_wp2_with fail
          clear hmin
          go_loopw [4, 33] (fun n i wr => ∃ (j : Nat) (v : Int), (j : Int) ≤ p.n ∧ n = .int .u64 v ∧ i = .int .u64 j ∧ Hid (v = x + j) ∧ Hid (Rb wr gc 50 #[.int .i64 p.d, .int .i64 p.s, .int .i64 p.i, .int .u64 p.n]) ∧ Hid (RaS w #[.int .i64 h.k, .int .i64 h.s, .int .i64 h.z, .int .u64 h.zc, .int .u64 h.ct, .int .i64 h.sm, .slice A h.P.length c, .slice B h.Q.length d] A B (some ⟨b, off, none⟩) h.P h.Q l wr)) (fun _ i _ => p.n.toNat - (intOf i).toNat)
          case atStart => exact ⟨0, x, by omega, rfl, rfl, Lib.hid (by simp), HCA, HSA⟩
          case round =>
            obtain ⟨j, v, hj, rfl, rfl, hv, HC5, HS5⟩ := hrel
            by_cases hjl : (j : Int) < p.n
            · obtain ⟨x0, x1, x2, x3, x4, x5, x6, x7⟩ := HS5.out.1.eight
              have lx := HS5.out.1.lt
              clear y0 y1 y2 y3 ly HCA HSA
              have hv1 : v + 1 ≤ h.ct := by have := hv.out; omega
              have hv0 : 0 ≤ v := by have := hv.out; omega
              go_wp2_with fail
              have hfa := find_of (l := l) (n := v + 1) (fun p hp => (HL.out.1 p hp).2) HP.out (by rw [← HF.out]; have := hv.out; omega) (by rw [← HF.out]; have := hv.out; omega)
              obtain ⟨ea, fa⟩ := at_spec HO.out (n := v + 1) (by omega) (by omega)
              rw [HLE.out, hfa] at fa
              have fa' := (Option.some.inj fa).symm
              refine (at_any h A B c d (v + 1) _ HS5.out.2.1.1 HS5.out.2.1.2 HO.out (by omega) (by omega)).mono ?_
              rintro e w6 ⟨rfl, hb6⟩
              rw [ea, fa']
              have HC6 := Lib.hid (HC5.out.below hb6)
              have HS6 := Lib.hid (HS5.out.below hb6)
              clear hb6 HC5 HS5 x0 x1 x2 x3 x4 x5 x6 x7 lx ea fa fa' hfa
              obtain ⟨y0, y1, y2, y3⟩ := HC6.out.four
              have ly := HC6.out.lt
              go_upto_region 12 with fail
              have hb7 : Below w6.heap.size w6 (w6.alloc (.cells #[.int .i64 p.d, .int .i64 p.s, .int .i64 p.i] 48)) := (Below.refl _ _).alloc (Nat.le_refl _) _
              obtain ⟨gk, hgk⟩ : ∃ g, w6.heap.size = g := ⟨_, rfl⟩
              have HM7 := Lib.hid (Rb.new w6 gk hgk 48 #[.int .i64 p.d, .int .i64 p.s, .int .i64 p.i])
              have HC7 := Lib.hid (HC6.out.below hb7)
              have HS7 := Lib.hid (HS6.out.below hb7)
              rw [hgk]
              clear hb7 hgk HC6 HS6 y0 y1 y2 y3 ly
              generalize w6.alloc (.cells #[.int .i64 p.d, .int .i64 p.s, .int .i64 p.i] 48) = w7 at *
              obtain ⟨y0, y1, y2, y3⟩ := HC7.out.four
              have ly := HC7.out.lt
              obtain ⟨m0, m1, m2, _, _, _⟩ := HM7.out.three
              have lm := HM7.out.lt
              have heq := eqK p.d p.s p.i w7
              go_wp2_with fail
              go_roundw
              case rel => exact ⟨j + 1, v + 1, by omega, rfl, by go_num, Lib.hid (by have := hv.out; omega), HC7, HS7⟩
              case measure => simp [intOf]; omega
            · have hje : (j : Int) = p.n := by omega
              have hvx : v = x + p.n := by have := hv.out; omega
              have HVX := Lib.hid hvx
              have HJE := Lib.hid hje
              clear hje hvx y0 y1 y2 y3 ly
              go_wp2_with fail
              go_roundw
              case rel => exact ⟨k + 1, v, by omega, rfl, by go_num, by have := HVX.out; omega, Lib.hid (by rw [HT.out, ← HF.out]; exact HVX.out), HS5⟩
              case measure => simp [intOf]; omega
        · obtain rfl : k = l.length := by omega
          have hxe := HF.out
          rw [List.take_length, HL.out.2] at hxe
          subst hxe
          obtain ⟨x0, x1, x2, x3, x4, x5, x6, x7⟩ := HS.out.1.eight
          have lx := HS.out.1.lt
          clear HF HSt hlt
          go_wp2_with fail
          refine (at_any h A B c d (h.ct + 1) _ HS.out.2.1.1 HS.out.2.1.2 HO.out (by omega) (by omega)).mono ?_
          rintro e w6 ⟨rfl, hb6⟩
          have hne : atE h (h.ct + 1) ≠ 0 := by
            by_cases g : h.ct = 0
            · rw [(atE_nil _ g).1]; decide
            · rw [(atE_out g (Or.inr (by omega))).1]; decide
          obtain ⟨E1, hE1⟩ : ∃ z, atE h (h.ct + 1) = z := ⟨_, rfl⟩
          obtain ⟨a1, ha1⟩ : ∃ z, (atC h (h.ct + 1)).d = z := ⟨_, rfl⟩
          obtain ⟨a2, ha2⟩ : ∃ z, (atC h (h.ct + 1)).s = z := ⟨_, rfl⟩
          obtain ⟨a3, ha3⟩ : ∃ z, (atC h (h.ct + 1)).i = z := ⟨_, rfl⟩
          rw [hE1] at hne
          rw [hE1, ha1, ha2, ha3]
          have hne1 : (E1 != 0) = true := by simpa using hne
          have HS6 := Lib.hid (HS.out.below hb6)
          clear hb6 HS x0 x1 x2 x3 x4 x5 x6 x7 lx hE1 ha1 ha2 ha3 hne
          obtain ⟨x0, x1, x2, x3, x4, x5, x6, x7⟩ := HS6.out.1.eight
          have lx := HS6.out.1.lt
          go_wp2_with fail
          have hba : Below w6.heap.size w6 (w6.alloc (.cells #[.int .i64 a1, .int .i64 a2, .int .i64 a3] 48)) := (Below.refl _ _).alloc (Nat.le_refl _) _
          have HS6 := Lib.hid (HS6.out.below hba)
          clear hba x0 x1 x2 x3 x4 x5 x6 x7 lx
          generalize w6.alloc (.cells #[.int .i64 a1, .int .i64 a2, .int .i64 a3] 48) = wa at *
          refine (at_any h A B c d 0 _ HS6.out.2.1.1 HS6.out.2.1.2 HO.out (by omega) (by omega)).mono ?_
          rintro e w7 ⟨rfl, hb7⟩
          have hne : atE h 0 ≠ 0 := by
            by_cases g : h.ct = 0
            · rw [(atE_nil _ g).1]; decide
            · rw [(atE_out g (Or.inl rfl)).1]; decide
          obtain ⟨E2, hE2⟩ : ∃ z, atE h 0 = z := ⟨_, rfl⟩
          obtain ⟨b1, hb1⟩ : ∃ z, (atC h 0).d = z := ⟨_, rfl⟩
          obtain ⟨b2, hb2⟩ : ∃ z, (atC h 0).s = z := ⟨_, rfl⟩
          obtain ⟨b3, hb3⟩ : ∃ z, (atC h 0).i = z := ⟨_, rfl⟩
          rw [hE2] at hne
          rw [hE2, hb1, hb2, hb3]
          have hne2 : (E2 != 0) = true := by simpa using hne
          have HS7 := Lib.hid (HS6.out.below hb7)
          clear hb7 hE2 hb1 hb2 hb3 hne
          go_wp2_with fail
          have hba : Below w7.heap.size w7 (w7.alloc (.cells #[.int .i64 b1, .int .i64 b2, .int .i64 b3] 48)) := (Below.refl _ _).alloc (Nat.le_refl _) _
          have HS7 := Lib.hid (HS7.out.below hba)
          clear hba
          generalize w7.alloc (.cells #[.int .i64 b1, .int .i64 b2, .int .i64 b3] 48) = w7 at *
          refine (awake08 w7).mono ?_
          rintro e w8 ⟨rfl, hb8⟩
          have HS8 := Lib.hid (HS7.out.below hb8)
          clear hb8 HS7
          obtain ⟨x0, x1, x2, x3, x4, x5, x6, x7⟩ := HS8.out.1.eight
          have lx := HS8.out.1.lt
          have HBz := Lib.hid HS8.out.2.2.2
          go_wp2_with fail
          go_ret
          exact ⟨rfl, HBz.out⟩
end Go.Proofs.Ytbibhjcmdehdbaa
