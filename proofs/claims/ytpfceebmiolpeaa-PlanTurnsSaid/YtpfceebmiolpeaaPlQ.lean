/- The law PlanTurns. -/
import Derived.Test.YtpfceebmiolpeaaPlS
import Derived.Test.YtpfceebmiolpeaaPlW
namespace Go.Proofs.Ytpfceebmiolpeaa.Pl
open Go.RowKit Go.Sort
set_option linter.unusedVariables false

set_option maxHeartbeats 8000000 in
set_option maxRecDepth 100000 in
theorem turns_main (A : Option Addr) (n c : Nat) (l : List It) (u : Int) (w : World) (hn : n = l.length) (h : Cl w A (fC rfA l)) (hl : n ≤ 40) (h0 : 0 < n) (hu : 0 ≤ u ∧ u < 256) (hr : RightL l) :
    Calls Try.prog 7 #[.slice A n c, .int .u8 u] w fun e w' => e = .returned (.bool true) ∧ Below w.heap.size w w' := by
  have HN := Lib.hid hn.symm
  have HL := Lib.hid h
  have HR := Lib.hid hr
  have HRT := Lib.hid (rnot_any A n c l w hn h (by omega) true (rightB_true hr))
  have hn40 : ¬ (40 : Int) < (n : Int) := by omega
  have hn00 : ¬ (n : Int) = 0 := by omega
  have hn0b : ((n : Int) == 0) = false := by simpa using hn00
  have hn1 : ¬ (n : Int) = -1 := by omega
  obtain ⟨bb, hbb⟩ : ∃ b : Nat, u = (b : Int) := ⟨u.toNat, by omega⟩
  subst hbb
  have hbl : bb < 256 := by omega
  clear h hn hr hu
  go_enter Try.func7, Try.ntmps7
  go_wp2_with (go_at_call 13; refine HRT.out.mono ?_; rintro e w1 ⟨rfl, hb1⟩; have HB1 := Lib.hid hb1; clear hb1)
  go_loopw [5, 33] (fun v i wr => ∃ j : Nat, j ≤ n ∧ i = .int .i64 j ∧ Hid (ORel 45 rfA w1 ((rotL l bb).take j) v wr)) (fun _ i _ => n - (intOf i).toNat)
  case atStart => exact ⟨0, by omega, rfl, Lib.hid (ORel.start _ _ w1)⟩
  case round =>
    obtain ⟨j, hj, rfl, HR1⟩ := hrel
    obtain ⟨B, m, d, rfl, hown, hb⟩ := HR1.out
    have HBR := Lib.hid (HB1.out.trans (hb.mono HB1.out.size))
    have hm := own_len4 fourR hown
    have hrl : (rotL l bb).length = n := by rw [rot_len, HN.out]
    have HRL := Lib.hid hrl
    by_cases hlt : j < n
    · have hji : (j : Int) < (n : Int) := by omega
      obtain rfl : m = j := by rw [hm, List.length_take]; omega
      obtain ⟨p, hp⟩ := getElem?_lt (l := rotL l bb) (k := m) (by omega)
      have hq := rot_at (l := l) (b := bb) (i := m) (by rw [HN.out]; exact hlt)
      rw [hp, HN.out] at hq
      obtain ⟨a, ha⟩ : ∃ a, (m + bb) % n = a := ⟨_, rfl⟩
      have han : a < n := by rw [← ha]; exact Nat.mod_lt _ h0
      have hai : (a : Int) < (n : Int) := by omega
      have hat : ((m : Int) + (bb : Int)).tmod (n : Int) = (a : Int) := by
        rw [← ha, Int.tmod_eq_emod_of_nonneg (by omega)]
        push_cast
        rfl
      rw [ha] at hq
      obtain ⟨b, off, rfl, hcell⟩ := (HL.out.below HBR.out).rfs (by rw [HN.out]; omega)
      obtain ⟨q0, q1, q2, q3⟩ := hcell a p hq.symm
      have HT := Lib.hid (take_snoc (rotL l bb) m p hp)
      have HO := Lib.hid hown
      have HB := Lib.hid hb
      clear hcell hp hown hb HR1 hq ha hm hrl
      go_wp2_with (at_builtin; refine put_rf (W := w1) rfl _ _ rfl w1.heap.size B m d ((rotL l bb).take m) rfl HO.out HB.out HB.out.size (by omega) wr.heap.size rfl rfl p ?_; intro A2 c2 w3 hown3 hb3 hw3; rw [← HT.out] at hown3; have HR3 := Lib.hid (show ORel 45 rfA w1 ((rotL l bb).take (m + 1)) (.slice A2 (m + 1) c2) w3 from ⟨A2, m + 1, c2, rfl, hown3, hb3⟩); clear hown3 hb3 hw3)
      go_roundw
      case rel => exact ⟨m + 1, by omega, by go_num, HR3⟩
      case measure => simp [intOf]; omega
    · obtain rfl : j = n := by omega
      have hji : ¬ ((j : Int) < (j : Int)) := by omega
      rw [List.take_of_length_le (by omega)] at hown hm
      obtain rfl : m = j := by omega
      have HCT := Lib.hid (own_cl hown)
      have HP := Lib.hid (rot_perm l bb)
      have HRR := Lib.hid (show ∀ x ∈ rotL l bb, RightI x from fun x hx => HR.out.1 x (HP.out.mem_iff.1 hx))
      have HTL := Lib.hid (fun (W : World) (hb : Below w.heap.size w W) => to_any A m c l W HN.out.symm (HL.out.below hb) (by rw [HN.out]; omega))
      have HTT := Lib.hid (fun (W : World) (hb : Below wr.heap.size wr W) => to_any B m d (rotL l bb) W HRL.out.symm (HCT.out.below hb) (by rw [HRL.out]; omega))
      clear hown hb HR1 hm hrl
      go_wp2_with fail
      refine (HTL.out _ HBR.out).mono ?_; rintro e w2 ⟨v, rfl, A2, c2, rfl, ho, hb⟩; have HB2 := Lib.hid hb; have HC2 := Lib.hid (own_cl ho); rw [HN.out]; clear ho hb
      go_wp2_with fail
      refine (next_any A2 m c2 l w2 HN.out.symm HC2.out HR.out.1 (by rw [HN.out]; omega)).mono ?_; intro e w3 hnx; obtain ⟨k, S, ok, A3, c3, hu, rfl, hcl, hb⟩ := nx_u hnx; have HB3 := Lib.hid (HB2.out.trans (hb.mono HB2.out.size)); have HU := Lib.hid hu; have HC3 := Lib.hid hcl; clear hnx hb hu hcl
      go_wp2_with fail
      have hb34 : Below w3.heap.size w3 (w3.alloc (.cells #[.slice A3 S.length c3, .int .i64 k] 36)) := (Below.refl _ _).alloc (Nat.le_refl _) _
      have hx7 := heap_alloc_new w3 (.cells #[.slice A3 S.length c3, .int .i64 k] 36)
      obtain ⟨W4, hW4⟩ : ∃ W4, w3.alloc (.cells #[.slice A3 S.length c3, .int .i64 k] 36) = W4 := ⟨_, rfl⟩
      obtain ⟨g7, hg7⟩ : ∃ g, w3.heap.size = g := ⟨_, rfl⟩
      rw [hW4] at hb34 hx7
      have hb4 := HB3.out.trans (hb34.mono HB3.out.size)
      have HX7 := Lib.hid (show W4.heap[g7]? = some (.cells #[.slice A3 S.length c3, .int .i64 k] 36 (0, 0)) from hg7 ▸ hx7)
      have HC4 := Lib.hid (HC3.out.below hb34)
      have HB4 := Lib.hid hb4
      have HZ7 := Lib.hid (Array.getElem?_eq_some_iff.1 HX7.out).1
      rw [hW4, hg7]
      clear hW4 hg7 hb34 hx7 hb4
      refine (HTT.out _ HB4.out).mono ?_; rintro e w5 ⟨v, rfl, A5, c5, rfl, ho, hb⟩; have HB5 := Lib.hid hb; have HC5 := Lib.hid (own_cl ho); rw [HRL.out]; clear ho hb
      go_wp2_with fail
      refine (next_any A5 m c5 (rotL l bb) w5 HRL.out.symm HC5.out HRR.out (by rw [HRL.out]; omega)).mono ?_; intro e w6 hnx; obtain ⟨A6, c6, rfl, hcl, hb⟩ := nx_v hnx HP.out.symm HU.out; have HB6 := Lib.hid (HB5.out.trans (hb.mono HB5.out.size)); have HC6 := Lib.hid hcl; clear hnx hb hcl
      go_upto_region 11 with fail
      have hb67 : Below w6.heap.size w6 (w6.alloc (.cells #[.slice A6 S.length c6, .int .i64 k] 36)) := (Below.refl _ _).alloc (Nat.le_refl _) _
      have hx9 := heap_alloc_new w6 (.cells #[.slice A6 S.length c6, .int .i64 k] 36)
      obtain ⟨W7, hW7⟩ : ∃ W7, w6.alloc (.cells #[.slice A6 S.length c6, .int .i64 k] 36) = W7 := ⟨_, rfl⟩
      obtain ⟨g9, hg9⟩ : ∃ g, w6.heap.size = g := ⟨_, rfl⟩
      rw [hW7] at hb67 hx9
      have hb47 := HB6.out.trans (hb67.mono HB6.out.size)
      have HX9 := Lib.hid (show W7.heap[g9]? = some (.cells #[.slice A6 S.length c6, .int .i64 k] 36 (0, 0)) from hg9 ▸ hx9)
      have HX7b := Lib.hid ((hb47.block g7 HZ7.out).trans HX7.out)
      have HC7 := Lib.hid (HC6.out.below hb67)
      have HC7a := Lib.hid (HC4.out.below hb47)
      have HB7 := Lib.hid (HB4.out.trans (hb47.mono HB4.out.size))
      have HZ7b := Lib.hid (Array.getElem?_eq_some_iff.1 HX7b.out).1
      obtain ⟨hk0, hk4⟩ := HU.out.level
      obtain ⟨hok, hSl⟩ := HU.out.more HR.out.1
      rw [HN.out] at hSl
      obtain ⟨sl, hsl⟩ : ∃ sl, S.length = sl := ⟨_, rfl⟩
      have HSL := Lib.hid hsl
      rw [hsl] at HX7b HX9
      rw [hsl] at hok hSl
      have hI := Lib.hid (ints_any A3 A6 sl c3 sl c6 S S W7 hsl.symm hsl.symm HC7a.out HC7.out (by omega) (by omega))
      simp only [decide_true] at hI
      obtain ⟨y0, y1⟩ := box2 HX7b.out
      obtain ⟨z0, z1⟩ := box2 HX9.out
      have HAP := Lib.hid (aptB_perm HP.out)
      rw [hW7, hg9]
      clear hW7 hg9 hb67 hx9 hb47 hsl
      cases ok with
      | true =>
        have hSI : (1 : Int) < (sl : Int) := by have := of_decide_eq_true hok.symm; omega
        clear hok
        go_wp2_with fail
        refine hI.out.mono ?_; rintro e w8 ⟨rfl, hb⟩; have HB8 := Lib.hid (HB7.out.trans (hb.mono HB7.out.size)); have hx8 := (hb.block g7 HZ7b.out).trans HX7b.out; have HX8 := Lib.hid hx8; have HB78 := Lib.hid hb; obtain ⟨r0, r1⟩ := box2 hx8; rw [HSL.out]; clear hb hx8 y0 y1 z0 z1
        go_wp2_with fail
        refine (HTL.out _ (HBR.out.trans (HB8.out.mono HBR.out.size))).mono ?_; rintro e w9 ⟨v, rfl, A9, c9, rfl, ho, hb⟩; have hb9 := hb; have HB9 := Lib.hid (HB8.out.trans (hb.mono HB8.out.size)); have HC9 := Lib.hid (own_cl ho); rw [HN.out]; clear ho hb
        go_wp2_with fail
        refine (apart_any A9 m c9 l w9 HN.out.symm HC9.out HR.out.1 (by rw [HN.out]; omega)).mono ?_; rintro e w10 ⟨rfl, hb⟩; have hb10 := hb; have HB10 := Lib.hid (HB9.out.trans (hb.mono HB9.out.size)); clear hb
        go_wp2_with fail
        refine (HTT.out _ HB10.out).mono ?_; rintro e w11 ⟨v, rfl, A11, c11, rfl, ho, hb⟩; have hb11 := hb; have HB11 := Lib.hid (HB10.out.trans (hb.mono HB10.out.size)); have HC11 := Lib.hid (own_cl ho); rw [HRL.out]; clear ho hb
        go_wp2_with fail
        refine (apart_any A11 m c11 (rotL l bb) w11 HRL.out.symm HC11.out HRR.out (by rw [HRL.out]; omega)).mono ?_; rintro e w12 ⟨rfl, hb⟩; have hb12 := hb; have HB12 := Lib.hid (HB11.out.trans (hb.mono HB11.out.size)); rw [HAP.out]; clear hb
        have HC8 := Lib.hid (HC7a.out.below HB78.out)
        have HB812 := Lib.hid (show Below w8.heap.size w8 w12 from (hb9.trans (hb10.mono hb9.size)).trans ((hb11.trans (hb12.mono hb11.size)).mono (Nat.le_trans hb9.size hb10.size)))
        have HZ78 := Lib.hid (Array.getElem?_eq_some_iff.1 HX8.out).1
        clear hb9 hb10 hb11 hb12
        obtain ⟨v, hv0, hall⟩ := HU.out.all HR.out
        have HWD := Lib.hid (fun w => rwidth_any k ⟨by omega, by omega⟩ w)
        obtain ⟨dd, hd⟩ : ∃ d, wd k = d := ⟨_, rfl⟩
        have hwp := wd_pos k
        simp only [hd] at HWD hwp
        have hd0 : ¬ dd = 0 := by omega
        have hdb : (dd == 0) = false := by simpa using hd0
        have hd1 : ¬ dd = -1 := by omega
        obtain ⟨q, hq⟩ : ∃ q, v / dd = q := ⟨_, rfl⟩
        have hq0 : 0 ≤ q := by rw [← hq]; exact Int.ediv_nonneg hv0 (by omega)
        have hq1 : ¬ q < 0 := by omega
        have HQ := Lib.hid (show ∀ x ∈ l, x.q ∈ S → x.lv ≤ k ∧ x.lo.tdiv dd = q from fun x hx hqs => by
          obtain ⟨h1, h2⟩ := hall x hx hqs
          refine ⟨h1, ?_⟩
          rw [Int.tdiv_eq_ediv_of_nonneg (HR.out.1 x hx).o0, ← hq, ← h2]
          unfold lowF
          rw [hd, Int.mul_ediv_cancel _ hd0])
        clear hd hq hall
        go_wp2_with fail
        go_loopw [11, 99] (fun zv i wr => ∃ (j : Nat) (z : Int), j ≤ m ∧ i = .int .i64 j ∧ zv = .int .i64 z ∧ Hid ((z = -1 ∨ z = q) ∧ Below w12.heap.size w12 wr)) (fun _ i _ => m - (intOf i).toNat)
        case atStart => exact ⟨0, -1, by omega, rfl, rfl, Lib.hid ⟨.inl rfl, Below.refl _ _⟩⟩
        case round =>
          obtain ⟨j, z, hj, rfl, rfl, HJ⟩ := hrel
          have HBQ := Lib.hid (HBR.out.trans ((HB12.out.trans (HJ.out.2.mono HB12.out.size)).mono HBR.out.size))
          have hx7q := ((HB812.out.trans (HJ.out.2.mono HB812.out.size)).block g7 HZ78.out).trans HX8.out
          have HX7Q := Lib.hid hx7q
          by_cases hlt : j < m
          · have hji : (j : Int) < (m : Int) := by omega
            obtain ⟨x, hx⟩ := getElem?_lt (l := l) (k := j) (by rw [HN.out]; exact hlt)
            obtain ⟨b, off, rfl, hcell⟩ := (HL.out.below HBQ.out).rfs (by rw [HN.out]; omega)
            obtain ⟨p0, p1, p2, p3⟩ := hcell j x hx
            have HX := Lib.hid (mem_of_at hx)
            have hal : ∀ (W : World), W.heap.size ≤ (W.alloc (.cells (rfA x) 45)).heap.size := fun W => by simp
            obtain ⟨W1, hW1⟩ : ∃ W1, wr.alloc (.cells #[.int .i64 x.q, .int .i64 x.lv, .int .i64 x.lo, .int .i64 x.hi] 45) = W1 := ⟨_, rfl⟩
            have hb1 : Below wr.heap.size wr W1 := hW1 ▸ (Below.refl _ _).alloc (Nat.le_refl _) _
            obtain ⟨gx, hgx⟩ : ∃ g, wr.heap.size = g := ⟨_, rfl⟩
            have HXC := Lib.hid (show W1.heap[gx]? = some (.cells #[.int .i64 x.q, .int .i64 x.lv, .int .i64 x.lo, .int .i64 x.hi] 45 (0, 0)) from hgx ▸ hW1 ▸ heap_alloc_new wr _)
            have HX71 := Lib.hid ((hb1.block g7 (Array.getElem?_eq_some_iff.1 hx7q).1).trans hx7q)
            have HJ1 := Lib.hid (HJ.out.2.trans (hb1.mono HJ.out.2.size))
            have HZ := Lib.hid HJ.out.1
            have HC1 := Lib.hid (HC8.out.below (HB812.out.trans (HJ1.out.mono HB812.out.size)))
            have HLG := Lib.hid (And.intro (Array.getElem?_eq_some_iff.1 HXC.out).1 (Array.getElem?_eq_some_iff.1 HX71.out).1)
            obtain ⟨s0, s1⟩ := box2 HX71.out
            clear hcell hx hb1 hx7q HJ
            go_wp2_with fail
            clear hW1 hgx p0 p1 p2 p3 s0 s1
            go_loopw [11, 106] (fun zv i w' => ∃ (a : Nat) (z : Int), a ≤ sl ∧ i = .int .i64 a ∧ zv = .int .i64 z ∧ Hid ((z = -1 ∨ z = q) ∧ Below W1.heap.size W1 w')) (fun _ i _ => sl - (intOf i).toNat)
            case atStart => exact ⟨0, z, by omega, rfl, rfl, Lib.hid ⟨HZ.out, Below.refl _ _⟩⟩
            case round =>
              obtain ⟨a, z, ha, rfl, rfl, HA⟩ := hrel
              have HAB := Lib.hid HA.out.2
              by_cases ham : a < sl
              · have hai : (a : Int) < (sl : Int) := by omega
                obtain ⟨s, hs⟩ := getElem?_lt (l := S) (k := a) (by rw [HSL.out]; exact ham)
                obtain ⟨b2, off2, rfl, hc2⟩ := (HC1.out.below HA.out.2).ints (by rw [HSL.out]; omega)
                have r0 := hc2 a s hs
                obtain ⟨t0, t1⟩ := box2 ((HA.out.2.block g7 HLG.out.2).trans HX71.out)
                obtain ⟨x0, x1, x2, x3⟩ := box4 ((HA.out.2.block gx HLG.out.1).trans HXC.out)
                have HS2 := Lib.hid (List.mem_of_getElem? hs)
                have HZ2 := Lib.hid HA.out.1
                clear hc2 hs HA
                by_cases hqs : x.q = s
                · subst hqs
                  obtain ⟨hlv, hdv⟩ := HQ.out x HX.out HS2.out
                  have hws : wrap64 q = q := IntWalk.wrap64_in _ ⟨by omega, by
                    have h1 := (HR.out.1 x HX.out).o1
                    have h0 := (HR.out.1 x HX.out).o0
                    rw [← hdv, Int.tdiv_eq_ediv_of_nonneg h0]
                    have := Int.ediv_le_self dd h0
                    omega⟩
                  have hlv' : ¬ k < x.lv := by omega
                  rcases HZ2.out with rfl | rfl
                  · go_wp2_with fail
                    go_quiet (first | (go_at_call 26; refine Calls.quiet_of_same ((HWD.out _).mono fun e w' h => ⟨h.1, h.2.symm⟩)))
                    go_wp2_with fail
                    go_roundw
                    case rel => (first | exact ⟨a + 1, q, by omega, by go_num, rfl, Lib.hid ⟨.inr rfl, below_drewN HAB.out _⟩⟩ | exact ⟨a + 1, z, by omega, by go_num, rfl, Lib.hid ⟨.inr rfl, below_drewN HAB.out _⟩⟩ | exact ⟨a + 1, q, by omega, by go_num, by rw [hws], Lib.hid ⟨.inr rfl, below_drewN HAB.out _⟩⟩ | exact ⟨a + 1, z, by omega, by go_num, by rw [hws], Lib.hid ⟨.inr rfl, below_drewN HAB.out _⟩⟩)
                    case measure => simp [intOf]; omega
                  · go_wp2_with fail
                    go_quiet (first | (go_at_call 26; refine Calls.quiet_of_same ((HWD.out _).mono fun e w' h => ⟨h.1, h.2.symm⟩)))
                    go_wp2_with fail
                    go_roundw
                    case rel => (first | exact ⟨a + 1, q, by omega, by go_num, rfl, Lib.hid ⟨.inr rfl, below_drewN HAB.out _⟩⟩ | exact ⟨a + 1, z, by omega, by go_num, rfl, Lib.hid ⟨.inr rfl, below_drewN HAB.out _⟩⟩ | exact ⟨a + 1, q, by omega, by go_num, by rw [hws], Lib.hid ⟨.inr rfl, below_drewN HAB.out _⟩⟩ | exact ⟨a + 1, z, by omega, by go_num, by rw [hws], Lib.hid ⟨.inr rfl, below_drewN HAB.out _⟩⟩)
                    case measure => simp [intOf]; omega
                · have hqb : (x.q != s) = true := by simpa using hqs
                  go_wp2_with fail
                  go_roundw
                  case rel => exact ⟨a + 1, z, by omega, by go_num, rfl, Lib.hid ⟨HZ2.out, HAB.out⟩⟩
                  case measure => simp [intOf]; omega
              · obtain rfl : a = sl := by omega
                have hai : ¬ ((a : Int) < (a : Int)) := by omega
                have HZ2 := Lib.hid HA.out.1
                have HJ2 := Lib.hid (HJ1.out.trans (HA.out.2.mono HJ1.out.size))
                clear HA
                go_wp2_with fail
                go_roundw
                case rel => exact ⟨j + 1, z, by omega, by go_num, rfl, Lib.hid ⟨HZ2.out, HJ2.out⟩⟩
                case measure => simp [intOf]; omega
          · obtain rfl : j = m := by omega
            have hji : ¬ ((j : Int) < (j : Int)) := by omega
            clear hx7q HJ
            go_wp2_with fail
            refine (awake_any _).mono ?_
            rintro e w13 ⟨rfl, hb⟩
            have HB13 := Lib.hid (HBQ.out.trans (hb.mono HBQ.out.size))
            clear hb
            go_wp2_with fail
            go_ret
            exact ⟨rfl, HB13.out⟩
      | false =>
        have hSI : ¬ (1 : Int) < (sl : Int) := by have := of_decide_eq_false hok.symm; omega
        clear hok
        go_wp2_with fail
        refine hI.out.mono ?_; rintro e w8 ⟨rfl, hb⟩; have HB8 := Lib.hid (HB7.out.trans (hb.mono HB7.out.size)); have hx8 := (hb.block g7 HZ7b.out).trans HX7b.out; have HX8 := Lib.hid hx8; have HB78 := Lib.hid hb; obtain ⟨r0, r1⟩ := box2 hx8; rw [HSL.out]; clear hb hx8 y0 y1 z0 z1
        go_wp2_with fail
        refine (HTL.out _ (HBR.out.trans (HB8.out.mono HBR.out.size))).mono ?_; rintro e w9 ⟨v, rfl, A9, c9, rfl, ho, hb⟩; have hb9 := hb; have HB9 := Lib.hid (HB8.out.trans (hb.mono HB8.out.size)); have HC9 := Lib.hid (own_cl ho); rw [HN.out]; clear ho hb
        go_wp2_with fail
        refine (apart_any A9 m c9 l w9 HN.out.symm HC9.out HR.out.1 (by rw [HN.out]; omega)).mono ?_; rintro e w10 ⟨rfl, hb⟩; have hb10 := hb; have HB10 := Lib.hid (HB9.out.trans (hb.mono HB9.out.size)); clear hb
        go_wp2_with fail
        refine (HTT.out _ HB10.out).mono ?_; rintro e w11 ⟨v, rfl, A11, c11, rfl, ho, hb⟩; have hb11 := hb; have HB11 := Lib.hid (HB10.out.trans (hb.mono HB10.out.size)); have HC11 := Lib.hid (own_cl ho); rw [HRL.out]; clear ho hb
        go_wp2_with fail
        refine (apart_any A11 m c11 (rotL l bb) w11 HRL.out.symm HC11.out HRR.out (by rw [HRL.out]; omega)).mono ?_; rintro e w12 ⟨rfl, hb⟩; have hb12 := hb; have HB12 := Lib.hid (HB11.out.trans (hb.mono HB11.out.size)); rw [HAP.out]; clear hb
        have HC8 := Lib.hid (HC7a.out.below HB78.out)
        have HB812 := Lib.hid (show Below w8.heap.size w8 w12 from (hb9.trans (hb10.mono hb9.size)).trans ((hb11.trans (hb12.mono hb11.size)).mono (Nat.le_trans hb9.size hb10.size)))
        have HZ78 := Lib.hid (Array.getElem?_eq_some_iff.1 HX8.out).1
        clear hb9 hb10 hb11 hb12
        obtain ⟨v, hv0, hall⟩ := HU.out.all HR.out
        have HWD := Lib.hid (fun w => rwidth_any k ⟨by omega, by omega⟩ w)
        obtain ⟨dd, hd⟩ : ∃ d, wd k = d := ⟨_, rfl⟩
        have hwp := wd_pos k
        simp only [hd] at HWD hwp
        have hd0 : ¬ dd = 0 := by omega
        have hdb : (dd == 0) = false := by simpa using hd0
        have hd1 : ¬ dd = -1 := by omega
        obtain ⟨q, hq⟩ : ∃ q, v / dd = q := ⟨_, rfl⟩
        have hq0 : 0 ≤ q := by rw [← hq]; exact Int.ediv_nonneg hv0 (by omega)
        have hq1 : ¬ q < 0 := by omega
        have HQ := Lib.hid (show ∀ x ∈ l, x.q ∈ S → x.lv ≤ k ∧ x.lo.tdiv dd = q from fun x hx hqs => by
          obtain ⟨h1, h2⟩ := hall x hx hqs
          refine ⟨h1, ?_⟩
          rw [Int.tdiv_eq_ediv_of_nonneg (HR.out.1 x hx).o0, ← hq, ← h2]
          unfold lowF
          rw [hd, Int.mul_ediv_cancel _ hd0])
        clear hd hq hall
        go_wp2_with fail
        go_loopw [11, 99] (fun zv i wr => ∃ (j : Nat) (z : Int), j ≤ m ∧ i = .int .i64 j ∧ zv = .int .i64 z ∧ Hid ((z = -1 ∨ z = q) ∧ Below w12.heap.size w12 wr)) (fun _ i _ => m - (intOf i).toNat)
        case atStart => exact ⟨0, -1, by omega, rfl, rfl, Lib.hid ⟨.inl rfl, Below.refl _ _⟩⟩
        case round =>
          obtain ⟨j, z, hj, rfl, rfl, HJ⟩ := hrel
          have HBQ := Lib.hid (HBR.out.trans ((HB12.out.trans (HJ.out.2.mono HB12.out.size)).mono HBR.out.size))
          have hx7q := ((HB812.out.trans (HJ.out.2.mono HB812.out.size)).block g7 HZ78.out).trans HX8.out
          have HX7Q := Lib.hid hx7q
          by_cases hlt : j < m
          · have hji : (j : Int) < (m : Int) := by omega
            obtain ⟨x, hx⟩ := getElem?_lt (l := l) (k := j) (by rw [HN.out]; exact hlt)
            obtain ⟨b, off, rfl, hcell⟩ := (HL.out.below HBQ.out).rfs (by rw [HN.out]; omega)
            obtain ⟨p0, p1, p2, p3⟩ := hcell j x hx
            have HX := Lib.hid (mem_of_at hx)
            have hal : ∀ (W : World), W.heap.size ≤ (W.alloc (.cells (rfA x) 45)).heap.size := fun W => by simp
            obtain ⟨W1, hW1⟩ : ∃ W1, wr.alloc (.cells #[.int .i64 x.q, .int .i64 x.lv, .int .i64 x.lo, .int .i64 x.hi] 45) = W1 := ⟨_, rfl⟩
            have hb1 : Below wr.heap.size wr W1 := hW1 ▸ (Below.refl _ _).alloc (Nat.le_refl _) _
            obtain ⟨gx, hgx⟩ : ∃ g, wr.heap.size = g := ⟨_, rfl⟩
            have HXC := Lib.hid (show W1.heap[gx]? = some (.cells #[.int .i64 x.q, .int .i64 x.lv, .int .i64 x.lo, .int .i64 x.hi] 45 (0, 0)) from hgx ▸ hW1 ▸ heap_alloc_new wr _)
            have HX71 := Lib.hid ((hb1.block g7 (Array.getElem?_eq_some_iff.1 hx7q).1).trans hx7q)
            have HJ1 := Lib.hid (HJ.out.2.trans (hb1.mono HJ.out.2.size))
            have HZ := Lib.hid HJ.out.1
            have HC1 := Lib.hid (HC8.out.below (HB812.out.trans (HJ1.out.mono HB812.out.size)))
            have HLG := Lib.hid (And.intro (Array.getElem?_eq_some_iff.1 HXC.out).1 (Array.getElem?_eq_some_iff.1 HX71.out).1)
            obtain ⟨s0, s1⟩ := box2 HX71.out
            clear hcell hx hb1 hx7q HJ
            go_wp2_with fail
            clear hW1 hgx p0 p1 p2 p3 s0 s1
            go_loopw [11, 106] (fun zv i w' => ∃ (a : Nat) (z : Int), a ≤ sl ∧ i = .int .i64 a ∧ zv = .int .i64 z ∧ Hid ((z = -1 ∨ z = q) ∧ Below W1.heap.size W1 w')) (fun _ i _ => sl - (intOf i).toNat)
            case atStart => exact ⟨0, z, by omega, rfl, rfl, Lib.hid ⟨HZ.out, Below.refl _ _⟩⟩
            case round =>
              obtain ⟨a, z, ha, rfl, rfl, HA⟩ := hrel
              have HAB := Lib.hid HA.out.2
              by_cases ham : a < sl
              · have hai : (a : Int) < (sl : Int) := by omega
                obtain ⟨s, hs⟩ := getElem?_lt (l := S) (k := a) (by rw [HSL.out]; exact ham)
                obtain ⟨b2, off2, rfl, hc2⟩ := (HC1.out.below HA.out.2).ints (by rw [HSL.out]; omega)
                have r0 := hc2 a s hs
                obtain ⟨t0, t1⟩ := box2 ((HA.out.2.block g7 HLG.out.2).trans HX71.out)
                obtain ⟨x0, x1, x2, x3⟩ := box4 ((HA.out.2.block gx HLG.out.1).trans HXC.out)
                have HS2 := Lib.hid (List.mem_of_getElem? hs)
                have HZ2 := Lib.hid HA.out.1
                clear hc2 hs HA
                by_cases hqs : x.q = s
                · subst hqs
                  obtain ⟨hlv, hdv⟩ := HQ.out x HX.out HS2.out
                  have hws : wrap64 q = q := IntWalk.wrap64_in _ ⟨by omega, by
                    have h1 := (HR.out.1 x HX.out).o1
                    have h0 := (HR.out.1 x HX.out).o0
                    rw [← hdv, Int.tdiv_eq_ediv_of_nonneg h0]
                    have := Int.ediv_le_self dd h0
                    omega⟩
                  have hlv' : ¬ k < x.lv := by omega
                  rcases HZ2.out with rfl | rfl
                  · go_wp2_with fail
                    go_quiet (first | (go_at_call 26; refine Calls.quiet_of_same ((HWD.out _).mono fun e w' h => ⟨h.1, h.2.symm⟩)))
                    go_wp2_with fail
                    go_roundw
                    case rel => (first | exact ⟨a + 1, q, by omega, by go_num, rfl, Lib.hid ⟨.inr rfl, below_drewN HAB.out _⟩⟩ | exact ⟨a + 1, z, by omega, by go_num, rfl, Lib.hid ⟨.inr rfl, below_drewN HAB.out _⟩⟩ | exact ⟨a + 1, q, by omega, by go_num, by rw [hws], Lib.hid ⟨.inr rfl, below_drewN HAB.out _⟩⟩ | exact ⟨a + 1, z, by omega, by go_num, by rw [hws], Lib.hid ⟨.inr rfl, below_drewN HAB.out _⟩⟩)
                    case measure => simp [intOf]; omega
                  · go_wp2_with fail
                    go_quiet (first | (go_at_call 26; refine Calls.quiet_of_same ((HWD.out _).mono fun e w' h => ⟨h.1, h.2.symm⟩)))
                    go_wp2_with fail
                    go_roundw
                    case rel => (first | exact ⟨a + 1, q, by omega, by go_num, rfl, Lib.hid ⟨.inr rfl, below_drewN HAB.out _⟩⟩ | exact ⟨a + 1, z, by omega, by go_num, rfl, Lib.hid ⟨.inr rfl, below_drewN HAB.out _⟩⟩ | exact ⟨a + 1, q, by omega, by go_num, by rw [hws], Lib.hid ⟨.inr rfl, below_drewN HAB.out _⟩⟩ | exact ⟨a + 1, z, by omega, by go_num, by rw [hws], Lib.hid ⟨.inr rfl, below_drewN HAB.out _⟩⟩)
                    case measure => simp [intOf]; omega
                · have hqb : (x.q != s) = true := by simpa using hqs
                  go_wp2_with fail
                  go_roundw
                  case rel => exact ⟨a + 1, z, by omega, by go_num, rfl, Lib.hid ⟨HZ2.out, HAB.out⟩⟩
                  case measure => simp [intOf]; omega
              · obtain rfl : a = sl := by omega
                have hai : ¬ ((a : Int) < (a : Int)) := by omega
                have HZ2 := Lib.hid HA.out.1
                have HJ2 := Lib.hid (HJ1.out.trans (HA.out.2.mono HJ1.out.size))
                clear HA
                go_wp2_with fail
                go_roundw
                case rel => exact ⟨j + 1, z, by omega, by go_num, rfl, Lib.hid ⟨HZ2.out, HJ2.out⟩⟩
                case measure => simp [intOf]; omega
          · obtain rfl : j = m := by omega
            have hji : ¬ ((j : Int) < (j : Int)) := by omega
            clear hx7q HJ
            go_wp2_with fail
            refine (awake_any _).mono ?_
            rintro e w13 ⟨rfl, hb⟩
            have HB13 := Lib.hid (HBQ.out.trans (hb.mono HBQ.out.size))
            clear hb
            have HAT := Lib.hid (aptB_true (HU.out.none_apt HR.out.1))
            go_wp2_with fail
            refine (HTL.out _ HB13.out).mono ?_
            rintro e w14 ⟨v, rfl, A14, c14, rfl, ho, hb⟩
            have HB14 := Lib.hid (HB13.out.trans (hb.mono HB13.out.size))
            have HC14 := Lib.hid (own_cl ho)
            rw [HN.out]
            clear ho hb
            go_wp2_with fail
            refine (apart_any A14 j c14 l w14 HN.out.symm HC14.out HR.out.1 (by rw [HN.out]; omega)).mono ?_
            rw [HAT.out]
            rintro e w15 ⟨rfl, hb⟩
            have HB15 := Lib.hid (HB14.out.trans (hb.mono HB14.out.size))
            clear hb
            go_wp2_with fail
            go_ret
            exact ⟨rfl, HB15.out⟩
set_option maxRecDepth 100000 in
theorem turns_long (A : Option Addr) (n c : Nat) (l : List It) (u : Int) (w : World) (hn : n = l.length) (h : Cl w A (fC rfA l)) (hnm : n ≤ 9223372036854775807) (hc : 40 < n ∨ n = 0 ∨ (n ≤ 40 ∧ 0 < n ∧ ¬ RightL l)) :
    Calls Try.prog 7 #[.slice A n c, .int .u8 u] w fun e w' => e = .returned (.bool true) ∧ Below w.heap.size w w' := by
  rcases hc with h1 | h1 | ⟨h1, h2, h3⟩
  · have hn40 : (40 : Int) < (n : Int) := by omega
    clear hn h h1
    go_enter Try.func7, Try.ntmps7
    go_wp2_with fail
    refine (awake_any _).mono ?_
    rintro e w5 ⟨rfl, hb5⟩
    have HB5 := Lib.hid hb5
    clear hb5
    go_wp2_with fail
    go_ret
    exact ⟨rfl, HB5.out⟩
  · subst h1
    clear hn h
    go_enter Try.func7, Try.ntmps7
    go_wp2_with fail
    refine (awake_any _).mono ?_
    rintro e w5 ⟨rfl, hb5⟩
    have HB5 := Lib.hid hb5
    clear hb5
    go_wp2_with fail
    go_ret
    exact ⟨rfl, HB5.out⟩
  · have hn40 : ¬ (40 : Int) < (n : Int) := by omega
    have hn00 : ¬ (n : Int) = 0 := by omega
    have hn0b : ((n : Int) == 0) = false := by simpa using hn00
    have HRT := Lib.hid (rnot_any A n c l w hn h (by omega) false (rightB_false h3))
    clear hn h h1 h2 h3
    go_enter Try.func7, Try.ntmps7
    go_wp2_with fail
    refine HRT.out.mono ?_
    rintro e w1 ⟨rfl, hb1⟩
    have HB1 := Lib.hid hb1
    clear hb1
    go_wp2_with fail
    refine (awake_any _).mono ?_
    rintro e w5 ⟨rfl, hb5⟩
    have HB5 := Lib.hid (HB1.out.trans (hb5.mono HB1.out.size))
    clear hb5
    go_wp2_with fail
    go_ret
    exact ⟨rfl, HB5.out⟩
theorem turns_walk (A : Option Addr) (n c : Nat) (l : List It) (u : Int) (w : World) (hn : n = l.length) (h : Cl w A (fC rfA l)) (hnm : l.length ≤ 9223372036854775807) (hu : 0 ≤ u ∧ u < 256) :
    Calls Try.prog 7 #[.slice A n c, .int .u8 u] w fun e w' => e = .returned (.bool true) ∧ Below w.heap.size w w' := by
  by_cases h1 : n ≤ 40
  · by_cases h2 : 0 < n
    · by_cases h3 : RightL l
      · exact turns_main A n c l u w hn h h1 h2 hu h3
      · exact turns_long A n c l u w hn h (by omega) (.inr (.inr ⟨h1, h2, h3⟩))
    · exact turns_long A n c l u w hn h (by omega) (.inr (.inl (by omega)))
  · exact turns_long A n c l u w hn h (by omega) (.inl (by omega))
end Go.Proofs.Ytpfceebmiolpeaa.Pl
