/- The law PlanEnds. -/
import Derived.Test.YtpfceebmiolpeaaPlS
import Derived.Test.YtpfceebmiolpeaaPlI
import Derived.Test.YtpfceebmiolpeaaPlK
import Derived.Test.YtpfceebmiolpeaaPlW
namespace Go.Proofs.Ytpfceebmiolpeaa.Pl
open Go.RowKit Go.Sort
set_option linter.unusedVariables false

/-- all that one had is had still -/
def Cov (l L : List It) : Prop := ∀ x ∈ l, ∃ y ∈ L, y.lo ≤ x.lo ∧ x.hi ≤ y.hi
def covB (L : List It) (x : It) : Bool := L.any fun y => decide (y.lo ≤ x.lo ∧ x.hi ≤ y.hi)
theorem covB_snoc (L : List It) (x y : It) : covB (L ++ [y]) x = (covB L x || decide (y.lo ≤ x.lo ∧ x.hi ≤ y.hi)) := by unfold covB; rw [List.any_append]; simp
theorem cov_true {l L : List It} (h : Cov l L) {x : It} (hx : x ∈ l) : covB L x = true := by
  obtain ⟨y, hy, h1⟩ := h x hx
  unfold covB
  rw [List.any_eq_true]
  exact ⟨y, hy, by simpa using h1⟩
/-- while steps are done -/
structure EndI (l : List It) (n i : Nat) (z : Int) (L : List It) : Prop where
  r : RightL L
  q : ∀ x ∈ L, x.q ≤ z
  c : Cov l L
  len : L.length + i ≤ n
  z0 : 0 ≤ z
  z1 : z ≤ 1099511627776 + i
theorem EndI.step {l L r : List It} {n i : Nat} {z k : Int} {S : List Int} (h : EndI l n i z L) (hn : NextR L (some (k, S))) (hd : DoR L S k (z + 1) r) : EndI l n (i + 1) (z + 1) r ∧ r.length + S.length = L.length + 1 ∧ 2 ≤ S.length := by
  obtain ⟨h1, h2, h3, h4, h5⟩ := step_all h.r hn (fun x hx => by have := h.q x hx; omega) hd
  have := h.len; have := h.z0; have := h.z1
  refine ⟨⟨h1, h5, fun x hx => ?_, by omega, by omega, by push_cast; omega⟩, h2, h3⟩
  obtain ⟨y, hy, y1, y2⟩ := h.c x hx
  obtain ⟨u, hu, u1, u2⟩ := h4 y hy
  exact ⟨u, hu, by omega, by omega⟩
set_option maxHeartbeats 8000000 in
set_option maxRecDepth 100000 in
theorem ends_main (A : Option Addr) (n c : Nat) (l : List It) (w : World) (hn : n = l.length) (h : Cl w A (fC rfA l)) (hl : n ≤ 40) (hr : RightL l) :
    Calls Try.prog 5 #[.slice A n c] w fun e w' => e = .returned (.bool true) ∧ Below w.heap.size w w' := by
  have HN := Lib.hid hn.symm
  have HL := Lib.hid h
  have HR := Lib.hid hr
  have HRT := Lib.hid (rnot_any A n c l w hn h (by omega) true (rightB_true hr))
  have hn40 : ¬ (40 : Int) < (n : Int) := by omega
  clear h hn hr
  go_enter Try.func5, Try.ntmps5
  go_wp2_with fail
  refine HRT.out.mono ?_
  rintro e w1 ⟨rfl, hb⟩
  have HB1 := Lib.hid hb
  clear hb
  go_wp2_with fail
  refine (to_any A n c l w1 HN.out.symm (HL.out.below HB1.out) (by rw [HN.out]; omega)).mono ?_
  rintro e w2 ⟨v, rfl, A2, c2, rfl, ho, hb⟩
  have HB2 := Lib.hid (HB1.out.trans (hb.mono HB1.out.size))
  have HC2 := Lib.hid (own_cl ho)
  rw [HN.out]
  clear ho hb
  go_wp2_with fail
  go_loopw [4, 30] (fun v i wr => ∃ (j : Nat) (z : Int), j ≤ n ∧ i = .int .i64 j ∧ v = .int .i64 z ∧ Hid (0 ≤ z ∧ (∀ x ∈ l.take j, x.q ≤ z) ∧ Below w2.heap.size w2 wr)) (fun _ i _ => n - (intOf i).toNat)
  case atStart => exact ⟨0, 0, by omega, rfl, rfl, Lib.hid ⟨Int.le_refl _, fun x hx => by simp at hx, Below.refl _ _⟩⟩
  case round =>
    obtain ⟨j, z, hj, rfl, rfl, HI⟩ := hrel
    have HBR := Lib.hid (HB2.out.trans (HI.out.2.2.mono HB2.out.size))
    by_cases hlt : j < n
    · have hji : (j : Int) < (n : Int) := by omega
      obtain ⟨x, hx⟩ := getElem?_lt (l := l) (k := j) (by rw [HN.out]; exact hlt)
      obtain ⟨b, off, rfl, hcell⟩ := (HL.out.below HBR.out).rfs (by rw [HN.out]; omega)
      obtain ⟨p0, p1, p2, p3⟩ := hcell j x hx
      have HT := Lib.hid (take_snoc l j x hx)
      have HI2 := Lib.hid HI.out
      have hb1 : Below wr.heap.size wr (wr.alloc (.cells #[.int .i64 x.q, .int .i64 x.lv, .int .i64 x.lo, .int .i64 x.hi] 45)) := (Below.refl _ _).alloc (Nat.le_refl _) _
      have HB := Lib.hid (HI.out.2.2.trans (hb1.mono HI.out.2.2.size))
      obtain ⟨y0, _, _, _⟩ := box4 (heap_alloc_new wr (.cells #[.int .i64 x.q, .int .i64 x.lv, .int .i64 x.lo, .int .i64 x.hi] 45))
      clear hcell hx HI hb1
      by_cases hzq : z < x.q
      · have HJ := Lib.hid (show 0 ≤ x.q ∧ ∀ y ∈ l.take (j + 1), y.q ≤ x.q from ⟨by have := HI2.out.1; omega, fun y hy => by
          rw [HT.out] at hy
          rcases List.mem_append.1 hy with hy | hy
          · have := HI2.out.2.1 y hy; omega
          · simp at hy; rw [hy]; exact Int.le_refl _⟩)
        go_wp2_with fail
        all_goals first
          | (exfalso; omega)
          | skip
        go_roundw
        case rel => exact ⟨j + 1, x.q, by omega, by go_num, by rw [show max z x.q = x.q by omega], Lib.hid ⟨HJ.out.1, HJ.out.2, HB.out⟩⟩
        case measure => simp [intOf]; omega
      · have HJ := Lib.hid (show 0 ≤ z ∧ ∀ y ∈ l.take (j + 1), y.q ≤ z from ⟨HI2.out.1, fun y hy => by
          rw [HT.out] at hy
          rcases List.mem_append.1 hy with hy | hy
          · exact HI2.out.2.1 y hy
          · simp at hy; rw [hy]; omega⟩)
        go_wp2_with fail
        all_goals first
          | (exfalso; omega)
          | skip
        go_roundw
        case rel => exact ⟨j + 1, z, by omega, by go_num, by rw [show max z x.q = z by omega], Lib.hid ⟨HJ.out.1, HJ.out.2, HB.out⟩⟩
        case measure => simp [intOf]; omega
    · obtain rfl : j = n := by omega
      have hji : ¬ ((j : Int) < (j : Int)) := by omega
      have hz0 := HI.out.1
      have hzq := HI.out.2.1
      rw [List.take_of_length_le (by rw [HN.out]; exact Nat.le_refl _)] at hzq
      have HC := Lib.hid (HC2.out.below HI.out.2.2)
      by_cases hzb : (1099511627776 : Int) < z
      · clear hzq HI
        go_wp2_with fail
        refine (awake_any _).mono ?_
        rintro e w5 ⟨rfl, hb5⟩
        have HB5 := Lib.hid (HBR.out.trans (hb5.mono HBR.out.size))
        clear hb5
        go_wp2_with fail
        go_ret
        exact ⟨rfl, HB5.out⟩
      · have HE0 := Lib.hid (show EndI l j 0 z l from ⟨HR.out, hzq, fun x hx => ⟨x, hx, Int.le_refl _, Int.le_refl _⟩, by rw [HN.out]; omega, hz0, by omega⟩)
        clear hzq HI
        go_wp2_with fail
        go_loopw [3, 4, 7] (fun v u i wr => ∃ (k : Nat) (L : List It) (B : Option Addr) (d : Nat) (y : Int), v = .slice B L.length d ∧ u = .int .i64 y ∧ i = .int .i64 k ∧ k ≤ 40 ∧ Hid (EndI l j k y L ∧ Cl wr B (fC itA L) ∧ Below w.heap.size w wr)) (fun _ _ i _ => 41 - (intOf i).toNat)
        case atStart => exact ⟨0, l, A2, c2, z, by rw [HN.out], rfl, rfl, by omega, Lib.hid ⟨HE0.out, HC.out, HBR.out⟩⟩
        case round =>
          obtain ⟨i, L, B, d, y, rfl, rfl, rfl, hi40, HI⟩ := hrel
          obtain ⟨m, hm⟩ : ∃ m, L.length = m := ⟨_, rfl⟩
          have HM := Lib.hid hm
          have HE := Lib.hid HI.out.1
          have HCL := Lib.hid HI.out.2.1
          have HBW := Lib.hid HI.out.2.2
          have hml := HI.out.1.len
          have hy0 := HI.out.1.z0
          have hy1 := HI.out.1.z1
          rw [hm] at hml ⊢
          have HNX := Lib.hid (next_any B m d L wr hm.symm HI.out.2.1 HI.out.1.r.1 (by rw [hm]; omega))
          clear hm HI
          go_wp2_with fail
          refine HNX.out.mono ?_
          intro e w3 hnx
          obtain ⟨k, S, ok, A3, c3, hu, rfl, hcl, hb⟩ := nx_u hnx
          have hb34 : Below w3.heap.size w3 (w3.alloc (.cells #[.slice A3 S.length c3, .int .i64 k] 36)) := (Below.refl _ _).alloc (Nat.le_refl _) _
          obtain ⟨sl, hsl⟩ : ∃ sl, S.length = sl := ⟨_, rfl⟩
          have HSL := Lib.hid hsl
          rw [hsl] at hb34 ⊢
          have HX := Lib.hid (heap_alloc_new w3 (.cells #[.slice A3 sl c3, .int .i64 k] 36))
          obtain ⟨s0, s1⟩ := box2 HX.out
          have hb4 := hb.trans (hb34.mono hb.size)
          have HB34 := Lib.hid hb34
          have HBA := Lib.hid (HBW.out.trans (hb4.mono HBW.out.size))
          have HCA := Lib.hid (HCL.out.below hb4)
          have HS4 := Lib.hid (hcl.below hb34)
          have HU := Lib.hid hu
          have hSl := (hu.more HE.out.r.1).2
          rw [hsl, HM.out] at hSl
          clear hnx hb hu hcl hb34 hb4 hsl
          cases ok with
          | false =>
            have HAPT := Lib.hid (HU.out.none_apt HE.out.r.1)
            clear s0 s1
            go_wp2_with fail
            refine (from_any B m d L _ HM.out.symm HCA.out (by rw [HM.out]; omega)).mono ?_
            rintro e w5 ⟨v, rfl, A5, c5, rfl, ho, hb⟩
            have HB5 := Lib.hid (HBA.out.trans (hb.mono HBA.out.size))
            have HC5 := Lib.hid (own_cl ho)
            have HCN := Lib.hid (HCA.out.below hb)
            rw [HM.out]
            clear ho hb
            go_wp2_with fail
            go_loopw [85] (fun i wr => ∃ a : Nat, a ≤ j ∧ i = .int .i64 a ∧ Hid (Below w5.heap.size w5 wr)) (fun i _ => j - (intOf i).toNat)
            case atStart => exact ⟨0, by omega, rfl, Lib.hid (Below.refl _ _)⟩
            case round =>
              obtain ⟨a, ha, rfl, HA⟩ := hrel
              have HBA2 := Lib.hid (HB5.out.trans (HA.out.mono HB5.out.size))
              by_cases haj : a < j
              · have hai : (a : Int) < (j : Int) := by omega
                obtain ⟨x, hx⟩ := getElem?_lt (l := l) (k := a) (by rw [HN.out]; exact haj)
                obtain ⟨b, off, rfl, hcell⟩ := (HL.out.below HBA2.out).rfs (by rw [HN.out]; omega)
                obtain ⟨p0, p1, p2, p3⟩ := hcell a x hx
                have HCX := Lib.hid (cov_true HE.out.c (mem_of_at hx))
                obtain ⟨W1, hW1⟩ : ∃ W1, wr.alloc (.cells #[.int .i64 x.q, .int .i64 x.lv, .int .i64 x.lo, .int .i64 x.hi] 45) = W1 := ⟨_, rfl⟩
                have hb1 : Below wr.heap.size wr W1 := hW1 ▸ (Below.refl _ _).alloc (Nat.le_refl _) _
                obtain ⟨gx, hgx⟩ : ∃ g, wr.heap.size = g := ⟨_, rfl⟩
                have HXC := Lib.hid (show W1.heap[gx]? = some (.cells #[.int .i64 x.q, .int .i64 x.lv, .int .i64 x.lo, .int .i64 x.hi] 45 (0, 0)) from hgx ▸ hW1 ▸ heap_alloc_new wr _)
                have HGX := Lib.hid (Array.getElem?_eq_some_iff.1 HXC.out).1
                have HA1 := Lib.hid (HA.out.trans (hb1.mono HA.out.size))
                clear hcell hx hb1 HA
                go_wp2_with fail
                clear hW1 hgx p0 p1 p2 p3
                go_loopw [14, 91] (fun v i wr => ∃ f : Nat, f ≤ m ∧ i = .int .i64 f ∧ v = .bool (covB (L.take f) x) ∧ Hid (Below W1.heap.size W1 wr)) (fun _ i _ => m - (intOf i).toNat)
                case atStart => exact ⟨0, by omega, rfl, by simp [covB], Lib.hid (Below.refl _ _)⟩
                case round =>
                  obtain ⟨f, hf, rfl, rfl, HF⟩ := hrel
                  obtain ⟨cv, hcv⟩ : ∃ cv, covB (L.take f) x = cv := ⟨_, rfl⟩
                  rw [hcv]
                  by_cases hfm : f < m
                  · have hfi : (f : Int) < (m : Int) := by omega
                    obtain ⟨u, hu⟩ := getElem?_lt (l := L) (k := f) (by rw [HM.out]; exact hfm)
                    obtain ⟨b2, off2, rfl, hcell⟩ := ((HC5.out.below HA1.out).below HF.out).rfs (by rw [HM.out]; omega)
                    obtain ⟨q0, q1, q2, q3⟩ := hcell f u hu
                    have HT := Lib.hid (show covB (L.take (f + 1)) x = (cv || decide (u.lo ≤ x.lo ∧ x.hi ≤ u.hi)) by rw [take_snoc L f u hu, covB_snoc, hcv])
                    have hb2 : Below wr.heap.size wr (wr.alloc (.cells #[.int .i64 u.q, .int .i64 u.lv, .int .i64 u.lo, .int .i64 u.hi] 45)) := (Below.refl _ _).alloc (Nat.le_refl _) _
                    have HF2 := Lib.hid (HF.out.trans (hb2.mono HF.out.size))
                    obtain ⟨y0, y1, y2, y3⟩ := box4 (heap_alloc_new wr (.cells #[.int .i64 u.q, .int .i64 u.lv, .int .i64 u.lo, .int .i64 u.hi] 45))
                    obtain ⟨x0, x1, x2, x3⟩ := box4 ((HF2.out.block gx HGX.out).trans HXC.out)
                    clear hcell hu hb2 hcv
                    cases cv with
                    | true =>
                      have HT2 := Lib.hid (show covB (L.take (f + 1)) x = true by rw [HT.out]; rfl)
                      go_wp2_with fail
                      go_roundw
                      case rel => exact ⟨f + 1, by omega, by go_num, by rw [HT2.out], Lib.hid HF2.out⟩
                      case measure => simp [intOf]; omega
                    | false =>
                      by_cases g1 : u.lo ≤ x.lo
                      · have HT2 := Lib.hid (show covB (L.take (f + 1)) x = decide (x.hi ≤ u.hi) by rw [HT.out]; simp [g1])
                        go_wp2_with fail
                        go_roundw
                        case rel => exact ⟨f + 1, by omega, by go_num, by rw [HT2.out], Lib.hid HF2.out⟩
                        case measure => simp [intOf]; omega
                      · have HT2 := Lib.hid (show covB (L.take (f + 1)) x = false by rw [HT.out]; simp [g1])
                        have g1' : decide (u.lo ≤ x.lo) = false := by simpa using g1
                        go_wp2_with fail
                        go_roundw
                        case rel => exact ⟨f + 1, by omega, by go_num, by rw [HT2.out], Lib.hid HF2.out⟩
                        case measure => simp [intOf]; omega
                  · obtain rfl : f = m := by omega
                    have hfi : ¬ ((f : Int) < (f : Int)) := by omega
                    rw [List.take_of_length_le (by rw [HM.out]; exact Nat.le_refl _), HCX.out] at hcv
                    subst hcv
                    have HA2 := Lib.hid (HA1.out.trans (HF.out.mono HA1.out.size))
                    clear HF
                    go_wp2_with fail
                    go_roundw
                    case rel => exact ⟨a + 1, by omega, by go_num, Lib.hid HA2.out⟩
                    case measure => simp [intOf]; omega
              · obtain rfl : a = j := by omega
                have hai : ¬ ((a : Int) < (a : Int)) := by omega
                have HCE := Lib.hid (HC5.out.below HA.out)
                have HCW := Lib.hid (HCN.out.below HA.out)
                clear HA
                go_wp2_with fail
                refine (awake_any _).mono ?_
                rintro e w6 ⟨rfl, hb6⟩
                have HB6 := Lib.hid (HBA2.out.trans (hb6.mono HBA2.out.size))
                have HCE6 := Lib.hid (HCE.out.below hb6)
                have HCW6 := Lib.hid (HCW.out.below hb6)
                clear hb6
                go_wp2_with fail
                refine (rnot_any A5 m c5 L w6 HM.out.symm HCE6.out (by rw [HM.out]; omega) true (rightB_true HE.out.r)).mono ?_
                rintro e w7 ⟨rfl, hb7⟩
                have HB7 := Lib.hid (HB6.out.trans (hb7.mono HB6.out.size))
                have HCE7 := Lib.hid (HCE6.out.below hb7)
                have HCW7 := Lib.hid (HCW6.out.below hb7)
                clear hb7
                go_wp2_with fail
                refine (rapart_any A5 m c5 L w7 HM.out.symm HCE7.out (by rw [HM.out]; omega)).mono ?_
                rw [aptB_true HAPT.out]
                rintro e w8 ⟨rfl, hb8⟩
                have HB8 := Lib.hid (HB7.out.trans (hb8.mono HB7.out.size))
                have HCW8 := Lib.hid (HCW7.out.below hb8)
                clear hb8
                go_wp2_with fail
                refine (apart_any B m d L w8 HM.out.symm HCW8.out HE.out.r.1 (by rw [HM.out]; omega)).mono ?_
                rw [aptB_true HAPT.out]
                rintro e w9 ⟨rfl, hb9⟩
                have HB9 := Lib.hid (HB8.out.trans (hb9.mono HB8.out.size))
                clear hb9
                go_wp2_with fail
                go_ret
                exact ⟨rfl, HB9.out⟩
          | true =>
            have hnx : NextR L (some (k, S)) := by
              rcases HU.out with ⟨_, h⟩ | ⟨h, _⟩
              · exact h
              · cases h
            have HNR := Lib.hid hnx
            have hkk := HU.out.level
            have hw1 : wrap64 (y + 1) = y + 1 := IntWalk.wrap64_in _ ⟨by omega, by omega⟩
            clear hnx
            go_wp2_with fail
            refine (do_any B A3 m d sl c3 L S k (y + 1) _ HM.out.symm HCA.out HE.out.r.1 (by rw [HM.out]; omega) HSL.out.symm HS4.out (by rw [HSL.out]; omega) hkk).mono ?_
            rintro e w5 ⟨r, v, rfl, hdo, A5, c5, rfl, ho, hb⟩
            obtain ⟨hE2, hlen, h2S⟩ := HE.out.step HNR.out hdo
            obtain ⟨rl, hrl⟩ : ∃ rl, r.length = rl := ⟨_, rfl⟩
            have HRL := Lib.hid hrl
            have HE2 := Lib.hid hE2
            have HB5 := Lib.hid (HBA.out.trans (hb.mono HBA.out.size))
            have HC5 := Lib.hid (own_cl ho)
            have hx5 := (hb.block w3.heap.size (by simp)).trans HX.out
            obtain ⟨t0, t1⟩ := box2 hx5
            rw [hrl, HSL.out, HM.out] at hlen
            rw [HSL.out] at h2S
            have hg1 : ¬ ((m : Int) ≤ (rl : Int)) := by omega
            have hg2 : ¬ ((j : Int) ≤ (i : Int)) := by omega
            have hg3 : (rl : Int) = (m : Int) - (sl : Int) + 1 := by omega
            have hg4 : ((rl : Int) != (m : Int) - (sl : Int) + 1) = false := by simpa using hg3
            rw [hrl]
            clear ho hb hx5 hdo hE2 hrl s0 s1
            go_wp2_with fail
            go_roundw
            case rel => exact ⟨i + 1, r, A5, c5, y + 1, by rw [HRL.out], rfl, by go_num, by omega, Lib.hid ⟨HE2.out, HC5.out, HB5.out⟩⟩
            case measure => simp [intOf]; omega
set_option maxRecDepth 100000 in
theorem ends_long (A : Option Addr) (n c : Nat) (l : List It) (w : World) (hn : n = l.length) (h : Cl w A (fC rfA l)) (hnm : n ≤ 9223372036854775807) (hc : 40 < n ∨ (n ≤ 40 ∧ ¬ RightL l)) :
    Calls Try.prog 5 #[.slice A n c] w fun e w' => e = .returned (.bool true) ∧ Below w.heap.size w w' := by
  rcases hc with h1 | ⟨h1, h3⟩
  · have hn40 : (40 : Int) < (n : Int) := by omega
    clear hn h h1
    go_enter Try.func5, Try.ntmps5
    go_wp2_with fail
    refine (awake_any _).mono ?_
    rintro e w5 ⟨rfl, hb5⟩
    have HB5 := Lib.hid hb5
    clear hb5
    go_wp2_with fail
    go_ret
    exact ⟨rfl, HB5.out⟩
  · have hn40 : ¬ (40 : Int) < (n : Int) := by omega
    have HRT := Lib.hid (rnot_any A n c l w hn h (by omega) false (rightB_false h3))
    clear hn h h1 h3
    go_enter Try.func5, Try.ntmps5
    go_wp2_with fail
    refine HRT.out.mono ?_
    rintro e w1 ⟨rfl, hb1⟩
    have HB1 := Lib.hid hb1
    clear hb1
    go_wp2_with fail
    refine (awake_any _).mono ?_
    rintro e w5 ⟨rfl, hb5⟩
    have HB5 := Lib.hid (HB1.out.trans (hb5.mono HB1.out.size))
    clear hb5
    go_wp2_with fail
    go_ret
    exact ⟨rfl, HB5.out⟩
theorem ends_walk (A : Option Addr) (n c : Nat) (l : List It) (w : World) (hn : n = l.length) (h : Cl w A (fC rfA l)) (hnm : l.length ≤ 9223372036854775807) :
    Calls Try.prog 5 #[.slice A n c] w fun e w' => e = .returned (.bool true) ∧ Below w.heap.size w w' := by
  by_cases h1 : n ≤ 40
  · by_cases h3 : RightL l
    · exact ends_main A n c l w hn h h1 h3
    · exact ends_long A n c l w hn h (by omega) (.inr ⟨h1, h3⟩)
  · exact ends_long A n c l w hn h (by omega) (.inl (by omega))
end Go.Proofs.Ytpfceebmiolpeaa.Pl
