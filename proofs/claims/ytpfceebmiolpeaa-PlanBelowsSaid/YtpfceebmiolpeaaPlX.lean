/- The law PlanNext. -/
import Derived.Test.YtpfceebmiolpeaaPlS
import Derived.Test.YtpfceebmiolpeaaPlK
import Derived.Test.YtpfceebmiolpeaaPlW
namespace Go.Proofs.Ytpfceebmiolpeaa.Pl
open Go.RowKit Go.Sort
set_option linter.unusedVariables false

/-- below a mark -/
def belB (mark : Int) (x : It) : Bool := decide (x.hi ≤ mark)
def hitB (mark q : Int) (x : It) : Bool := decide (x.q = q ∧ x.hi ≤ mark)
theorem strict_of {X : List Int} (h : X.Pairwise (· ≤ ·)) (hn : X.Nodup) : X.Pairwise (· < ·) := (h.and hn).imp fun ⟨a, b⟩ => by omega
theorem bel_strict {l : List It} (h : (l.map It.q).Nodup) (p : It → Bool) : (srt ((l.filter p).map It.q)).Pairwise (· < ·) :=
  strict_of (srt_sorted _) ((srt_perm _).nodup_iff.2 (h.sublist (List.filter_sublist.map _)))
theorem hit_zero {l : List It} {mark q : Int} (h : q ∉ l.map It.q) : (l.filter (hitB mark q)).length = 0 := by
  rw [List.length_eq_zero_iff, List.filter_eq_nil_iff]
  intro x hx hh
  unfold hitB at hh
  rw [decide_eq_true_eq] at hh
  exact h (List.mem_map.2 ⟨x, hx, hh.1⟩)
theorem hit_one : ∀ {l : List It} {mark q : Int}, (l.map It.q).Nodup → q ∈ (l.filter (belB mark)).map It.q → (l.filter (hitB mark q)).length = 1
  | [], _, _, _, h => by simp at h
  | a :: r, mark, q, hn, h => by
    rw [List.map_cons, List.nodup_cons] at hn
    rw [List.mem_map] at h
    obtain ⟨x, hx, hxq⟩ := h
    obtain ⟨h1, h2⟩ := List.mem_filter.1 hx
    unfold belB at h2
    rw [decide_eq_true_eq] at h2
    rw [List.filter_cons]
    rcases List.mem_cons.1 h1 with e | h1
    · subst e
      rw [if_pos (by unfold hitB; simp [hxq, h2]), List.length_cons, hit_zero (by rw [← hxq]; exact hn.1)]
    · have hne : a.q ≠ q := fun e => hn.1 (by rw [e, ← hxq]; exact List.mem_map.2 ⟨x, h1, rfl⟩)
      rw [if_neg (by unfold hitB; simp [hne])]
      exact hit_one hn.2 (List.mem_map.2 ⟨x, List.mem_filter.2 ⟨h1, by unfold belB; simpa using h2⟩, hxq⟩)
theorem filt_snoc (p : It → Bool) (l : List It) (x : It) : ((l ++ [x]).filter p).length = (l.filter p).length + if p x then 1 else 0 := by
  rw [List.filter_append, List.length_append, List.filter_cons]
  cases p x <;> simp
set_option maxHeartbeats 8000000 in
set_option maxRecDepth 100000 in
theorem next_main (A : Option Addr) (n c : Nat) (l : List It) (u low mark : Int) (w : World) (hn : n = l.length) (h : Cl w A (fC rfA l)) (hl : n ≤ 60) (hu : 0 ≤ u ∧ u < 256) (hl1 : low ≤ 1125899906842624) (hl2 : -1125899906842624 ≤ low) (hr : RightL l) :
    Calls Try.prog 4 #[.slice A n c, .int .u8 u, .int .i64 low, .int .i64 mark] w fun e w' => e = .returned (.bool true) ∧ Below w.heap.size w w' := by
  have HN := Lib.hid hn.symm
  have HL := Lib.hid h
  have HR := Lib.hid hr
  have HRT := Lib.hid (rnot_any A n c l w hn h (by omega) true (rightB_true hr))
  have hn60 : ¬ (60 : Int) < (n : Int) := by omega
  have hg1 : ¬ (1125899906842624 : Int) < low := by omega
  have hg2 : ¬ low < (-1125899906842624 : Int) := by omega
  obtain ⟨lv, hlv⟩ : ∃ k, u % 5 = k := ⟨_, rfl⟩
  have hk0 : 0 ≤ lv ∧ lv ≤ 4 := by omega
  have hku : u.tmod 5 = lv := by rw [← hlv]; exact Int.tmod_eq_emod_of_nonneg hu.1
  clear h hn hr hlv
  go_enter Try.func4, Try.ntmps4
  go_wp2_with fail
  refine HRT.out.mono ?_
  rintro e w1 ⟨rfl, hb⟩
  have HB1 := Lib.hid hb
  clear hb
  go_wp2_with fail
  refine (to_any A n c l w1 HN.out.symm (HL.out.below HB1.out) (by rw [HN.out]; omega)).mono ?_
  rintro e w2 ⟨v, rfl, A2, c2, rfl, ho, hb⟩
  have HB2 := Lib.hid (HB1.out.trans (hb.mono HB1.out.size))
  have HC2 := Lib.hid (own_cl ho)
  rw [HN.out]
  clear ho hb
  go_wp2_with fail
  refine (next_any A2 n c2 l w2 HN.out.symm HC2.out HR.out.1 (by rw [HN.out]; omega)).mono ?_
  intro e w3 hnx
  obtain ⟨k, S, ok, A3, c3, hu, rfl, hcl, hb⟩ := nx_u hnx
  obtain ⟨sl, hsl⟩ : ∃ sl, S.length = sl := ⟨_, rfl⟩
  have HSL := Lib.hid hsl
  rw [hsl]
  have hSl := (hu.more HR.out.1).2
  rw [hsl, HN.out] at hSl
  have hb34 : Below w3.heap.size w3 (w3.alloc (.cells #[.slice A3 sl c3, .int .i64 k] 36)) := (Below.refl _ _).alloc (Nat.le_refl _) _
  have hx := heap_alloc_new w3 (.cells #[.slice A3 sl c3, .int .i64 k] 36)
  have hb4 := hb.trans (hb34.mono hb.size)
  have HBA := Lib.hid (HB2.out.trans (hb4.mono HB2.out.size))
  have HCA := Lib.hid (HC2.out.below hb4)
  have HS4 := Lib.hid (hcl.below hb34)
  have HU := Lib.hid hu
  obtain ⟨W4, hW4⟩ : ∃ W4, w3.alloc (.cells #[.slice A3 sl c3, .int .i64 k] 36) = W4 := ⟨_, rfl⟩
  obtain ⟨g, hg⟩ : ∃ g, w3.heap.size = g := ⟨_, rfl⟩
  rw [hW4] at HBA HCA HS4 hx
  rw [hg] at hx
  have HX := Lib.hid hx
  have HGL := Lib.hid (Array.getElem?_eq_some_iff.1 hx).1
  clear hnx hb hu hcl hb34 hb4 hsl hx
  go_wp2_with fail
  clear hW4 hg
  refine (rnext_any A n c l W4 HN.out.symm (HL.out.below HBA.out) HR.out.1 (by rw [HN.out]; omega)).mono ?_
  intro e w5 hrx
  obtain ⟨A5, c5, rfl, hcl5, hb5⟩ := rx_v hrx HU.out
  rw [HSL.out]
  have HB5 := Lib.hid (HBA.out.trans (hb5.mono HBA.out.size))
  have HC5 := Lib.hid hcl5
  have HS5 := Lib.hid (HS4.out.below hb5)
  have HA5 := Lib.hid (HCA.out.below hb5)
  have hx5 := (hb5.block g HGL.out).trans HX.out
  obtain ⟨s0, s1⟩ := box2 hx5
  have hokk : (ok != ok) = false := by cases ok <;> rfl
  have HI := Lib.hid (ints_any A3 A5 sl c3 sl c5 S S w5 HSL.out.symm HSL.out.symm HS5.out HC5.out (by rw [HSL.out]; omega) (by rw [HSL.out]; omega))
  simp only [decide_true] at HI
  clear hrx hcl5 hb5 hx5
  go_wp2_with fail
  refine HI.out.mono ?_
  rintro e w6 ⟨rfl, hb⟩
  have HB6 := Lib.hid (HB5.out.trans (hb.mono HB5.out.size))
  have HA6 := Lib.hid (HA5.out.below hb)
  clear hb s0 s1
  go_wp2_with fail
  refine (apart_any A2 n c2 l w6 HN.out.symm HA6.out HR.out.1 (by rw [HN.out]; omega)).mono ?_
  rintro e w7 ⟨rfl, hb⟩
  have HB7 := Lib.hid (HB6.out.trans (hb.mono HB6.out.size))
  have HA7 := Lib.hid (HA6.out.below hb)
  clear hb
  go_wp2_with fail
  refine (rapart_any A n c l w7 HN.out.symm (HL.out.below HB7.out) (by rw [HN.out]; omega)).mono ?_
  rintro e w8 ⟨rfl, hb⟩
  have HB8 := Lib.hid (HB7.out.trans (hb.mono HB7.out.size))
  have HA8 := Lib.hid (HA7.out.below hb)
  have haa : (aptB l != aptB l) = false := by cases aptB l <;> rfl
  clear hb
  go_wp2_with fail
  refine (below_any A2 n c2 l mark w8 HN.out.symm HA8.out HR.out.1 (by rw [HN.out]; omega)).mono ?_
  rintro e w9 ⟨v, rfl, A9, c9, rfl, ho, hb⟩
  obtain ⟨X, hX⟩ : ∃ X, srt ((l.filter fun x => decide (x.hi ≤ mark)).map It.q) = X := ⟨_, rfl⟩
  obtain ⟨xl, hxl⟩ : ∃ xl, X.length = xl := ⟨_, rfl⟩
  rw [hX, hxl] at ho
  rw [hX, hxl]
  have HXL := Lib.hid hxl
  have HXS := Lib.hid (show X.Pairwise (· < ·) from hX ▸ bel_strict HR.out.2 _)
  have HXN := Lib.hid (show X.length = (l.filter (belB mark)).length by rw [← hX, srt_length, List.length_map]; rfl)
  have HXM := Lib.hid (show ∀ q ∈ X, q ∈ (l.filter (belB mark)).map It.q from fun q hq => by rw [← hX, (srt_perm _).mem_iff] at hq; exact hq)
  have hxn : xl ≤ n := by
    rw [← hxl, HXN.out, ← HN.out]
    exact List.length_filter_le _ _
  have HB9 := Lib.hid (HB8.out.trans (hb.mono HB8.out.size))
  have HA9 := Lib.hid (HA8.out.below hb)
  have HC9 := Lib.hid (own_cl ho)
  clear ho hb hX hxl
  go_wp2_with fail
  go_loopw [17, 86] (fun v i wr => ∃ j : Nat, j ≤ xl ∧ i = .int .i64 j ∧ v = .int .i64 j ∧ Hid (Below w9.heap.size w9 wr)) (fun _ i _ => xl - (intOf i).toNat)
  case atStart => exact ⟨0, by omega, rfl, rfl, Lib.hid (Below.refl _ _)⟩
  case round =>
    obtain ⟨j, hj, rfl, rfl, HJ⟩ := hrel
    have HBJ := Lib.hid (HB9.out.trans (HJ.out.mono HB9.out.size))
    by_cases hlt : j < xl
    · have hji : (j : Int) < (xl : Int) := by omega
      obtain ⟨q, hq⟩ := getElem?_lt (l := X) (k := j) (by rw [HXL.out]; exact hlt)
      obtain ⟨b9, off9, rfl, hc9⟩ := (HC9.out.below HJ.out).ints (by rw [HXL.out]; omega)
      have r0 := hc9 j q hq
      have HQ := Lib.hid (hit_one HR.out.2 (HXM.out q (List.mem_of_getElem? hq)))
      have HJ2 := Lib.hid HJ.out
      by_cases hj0 : j = 0
      · subst hj0
        rw [Nat.add_zero] at r0
        clear hc9 hq HJ
        go_wp2_with fail
        go_loopw [17, 104] (fun v i w' => ∃ f : Nat, f ≤ n ∧ i = .int .i64 f ∧ v = .int .i64 ((0 + ((l.take f).filter (hitB mark q)).length : Nat) : Int) ∧ Hid (Below wr.heap.size wr w')) (fun _ i _ => n - (intOf i).toNat)
        case atStart => exact ⟨0, by omega, rfl, by simp, Lib.hid (Below.refl _ _)⟩
        case round =>
          obtain ⟨f, hf, rfl, rfl, HF⟩ := hrel
          have HBF := Lib.hid (HBJ.out.trans (HF.out.mono HBJ.out.size))
          obtain ⟨hc, hhc⟩ : ∃ hc, ((l.take f).filter (hitB mark q)).length = hc := ⟨_, rfl⟩
          have hhn : hc ≤ n := by
            rw [← hhc]
            refine Nat.le_trans (List.length_filter_le _ _) ?_
            rw [List.length_take]; omega
          rw [hhc]
          have HHC := Lib.hid hhc
          clear hhc
          have HF2 := Lib.hid HF.out
          by_cases hfn : f < n
          · have hfi : (f : Int) < (n : Int) := by omega
            obtain ⟨x, hx⟩ := getElem?_lt (l := l) (k := f) (by rw [HN.out]; exact hfn)
            obtain ⟨b, off, rfl, hcell⟩ := (HL.out.below HBF.out).rfs (by rw [HN.out]; omega)
            obtain ⟨p0, p1, p2, p3⟩ := hcell f x hx
            have HT := Lib.hid (take_snoc l f x hx)
            have hb1 : Below wr.heap.size wr (wr.alloc (.cells #[.int .i64 x.q, .int .i64 x.lv, .int .i64 x.lo, .int .i64 x.hi] 45)) := (Below.refl _ _).alloc (Nat.le_refl _) _
            have HA2 := Lib.hid (HF2.out.trans (hb1.mono HF2.out.size))
            obtain ⟨y0, y1, y2, y3⟩ := box4 (heap_alloc_new wr (.cells #[.int .i64 x.q, .int .i64 x.lv, .int .i64 x.lo, .int .i64 x.hi] 45))
            clear hcell hx hb1
            clear HF
            by_cases g1 : x.q = q
            · rw [g1] at HA2
              by_cases g2 : x.hi ≤ mark
              · have HZ := Lib.hid (show ((l.take (f + 1)).filter (hitB mark q)).length = hc + 1 by rw [HT.out, filt_snoc, HHC.out, if_pos (by unfold hitB; simp [g1, g2])])
                go_wp2_with fail
                go_roundw
                case rel => exact ⟨f + 1, by omega, by go_num, by rw [HZ.out]; go_num, Lib.hid HA2.out⟩
                case measure => simp [intOf]; omega
              · have g2' : decide (x.hi ≤ mark) = false := by simpa using g2
                have HZ := Lib.hid (show ((l.take (f + 1)).filter (hitB mark q)).length = hc by rw [HT.out, filt_snoc, HHC.out, if_neg (by unfold hitB; simp [g2])]; rfl)
                go_wp2_with fail
                go_roundw
                case rel => exact ⟨f + 1, by omega, by go_num, by rw [HZ.out], Lib.hid HA2.out⟩
                case measure => simp [intOf]; omega
            · have g1' : (x.q == q) = false := by simpa using g1
              have HZ := Lib.hid (show ((l.take (f + 1)).filter (hitB mark q)).length = hc by rw [HT.out, filt_snoc, HHC.out, if_neg (by unfold hitB; simp [g1])]; rfl)
              go_wp2_with fail
              go_roundw
              case rel => exact ⟨f + 1, by omega, by go_num, by rw [HZ.out], Lib.hid HA2.out⟩
              case measure => simp [intOf]; omega
          · obtain rfl : f = n := by omega
            have hfi : ¬ ((f : Int) < (f : Int)) := by omega
            have hh1 : hc = 1 := by
              have h1 := HHC.out
              rw [List.take_of_length_le (by rw [HN.out]; exact Nat.le_refl _), HQ.out] at h1
              omega
            subst hh1
            have HJ3 := Lib.hid (HJ2.out.trans (HF.out.mono HJ2.out.size))
            clear HF
            go_wp2_with fail
            go_roundw
            case rel => exact ⟨0 + 1, by omega, by go_num, by go_num, Lib.hid HJ3.out⟩
            case measure => simp [intOf]; omega
      · have hjp : (0 : Int) < (j : Int) := by omega
        obtain ⟨s, hs⟩ := getElem?_lt (l := X) (k := j - 1) (by rw [HXL.out]; omega)
        have r1 := hc9 (j - 1) s hs
        have hjm : (j : Int) - 1 = ((j - 1 : Nat) : Int) := by omega
        have hjn : ((j - 1 : Nat) : Int) < (xl : Int) := by omega
        have hsq : s < q := by
          obtain ⟨e1, e2⟩ := List.getElem?_eq_some_iff.1 hs
          obtain ⟨e3, e4⟩ := List.getElem?_eq_some_iff.1 hq
          rw [← e2, ← e4]
          exact List.pairwise_iff_getElem.1 HXS.out (j - 1) j e1 e3 (by omega)
        have hsq' : ¬ q ≤ s := by omega
        clear hc9 hq hs HJ
        go_wp2_with fail
        go_loopw [17, 104] (fun v i w' => ∃ f : Nat, f ≤ n ∧ i = .int .i64 f ∧ v = .int .i64 ((j + ((l.take f).filter (hitB mark q)).length : Nat) : Int) ∧ Hid (Below wr.heap.size wr w')) (fun _ i _ => n - (intOf i).toNat)
        case atStart => exact ⟨0, by omega, rfl, by simp, Lib.hid (Below.refl _ _)⟩
        case round =>
          obtain ⟨f, hf, rfl, rfl, HF⟩ := hrel
          have HBF := Lib.hid (HBJ.out.trans (HF.out.mono HBJ.out.size))
          obtain ⟨hc, hhc⟩ : ∃ hc, ((l.take f).filter (hitB mark q)).length = hc := ⟨_, rfl⟩
          have hhn : hc ≤ n := by
            rw [← hhc]
            refine Nat.le_trans (List.length_filter_le _ _) ?_
            rw [List.length_take]; omega
          rw [hhc]
          have HHC := Lib.hid hhc
          clear hhc
          have HF2 := Lib.hid HF.out
          by_cases hfn : f < n
          · have hfi : (f : Int) < (n : Int) := by omega
            obtain ⟨x, hx⟩ := getElem?_lt (l := l) (k := f) (by rw [HN.out]; exact hfn)
            obtain ⟨b, off, rfl, hcell⟩ := (HL.out.below HBF.out).rfs (by rw [HN.out]; omega)
            obtain ⟨p0, p1, p2, p3⟩ := hcell f x hx
            have HT := Lib.hid (take_snoc l f x hx)
            have hb1 : Below wr.heap.size wr (wr.alloc (.cells #[.int .i64 x.q, .int .i64 x.lv, .int .i64 x.lo, .int .i64 x.hi] 45)) := (Below.refl _ _).alloc (Nat.le_refl _) _
            have HA2 := Lib.hid (HF2.out.trans (hb1.mono HF2.out.size))
            obtain ⟨y0, y1, y2, y3⟩ := box4 (heap_alloc_new wr (.cells #[.int .i64 x.q, .int .i64 x.lv, .int .i64 x.lo, .int .i64 x.hi] 45))
            clear hcell hx hb1
            clear HF
            by_cases g1 : x.q = q
            · rw [g1] at HA2
              by_cases g2 : x.hi ≤ mark
              · have HZ := Lib.hid (show ((l.take (f + 1)).filter (hitB mark q)).length = hc + 1 by rw [HT.out, filt_snoc, HHC.out, if_pos (by unfold hitB; simp [g1, g2])])
                go_wp2_with fail
                go_roundw
                case rel => exact ⟨f + 1, by omega, by go_num, by rw [HZ.out]; go_num, Lib.hid HA2.out⟩
                case measure => simp [intOf]; omega
              · have g2' : decide (x.hi ≤ mark) = false := by simpa using g2
                have HZ := Lib.hid (show ((l.take (f + 1)).filter (hitB mark q)).length = hc by rw [HT.out, filt_snoc, HHC.out, if_neg (by unfold hitB; simp [g2])]; rfl)
                go_wp2_with fail
                go_roundw
                case rel => exact ⟨f + 1, by omega, by go_num, by rw [HZ.out], Lib.hid HA2.out⟩
                case measure => simp [intOf]; omega
            · have g1' : (x.q == q) = false := by simpa using g1
              have HZ := Lib.hid (show ((l.take (f + 1)).filter (hitB mark q)).length = hc by rw [HT.out, filt_snoc, HHC.out, if_neg (by unfold hitB; simp [g1])]; rfl)
              go_wp2_with fail
              go_roundw
              case rel => exact ⟨f + 1, by omega, by go_num, by rw [HZ.out], Lib.hid HA2.out⟩
              case measure => simp [intOf]; omega
          · obtain rfl : f = n := by omega
            have hfi : ¬ ((f : Int) < (f : Int)) := by omega
            have hh1 : hc = 1 := by
              have h1 := HHC.out
              rw [List.take_of_length_le (by rw [HN.out]; exact Nat.le_refl _), HQ.out] at h1
              omega
            subst hh1
            have HJ3 := Lib.hid (HJ2.out.trans (HF.out.mono HJ2.out.size))
            clear HF
            go_wp2_with fail
            go_roundw
            case rel => exact ⟨j + 1, by omega, by go_num, by go_num, Lib.hid HJ3.out⟩
            case measure => simp [intOf]; omega
    · obtain rfl : j = xl := by omega
      have hji : ¬ ((j : Int) < (j : Int)) := by omega
      have HA10 := Lib.hid (HA9.out.below HJ.out)
      clear HJ
      go_wp2_with fail
      go_loopw [22, 124] (fun v i w' => ∃ (f z : Nat), f ≤ n ∧ i = .int .i64 f ∧ v = .int .i64 z ∧ Hid (z = ((l.take f).filter (belB mark)).length ∧ Below wr.heap.size wr w')) (fun _ i _ => n - (intOf i).toNat)
      case atStart => exact ⟨0, 0, by omega, rfl, rfl, Lib.hid ⟨by simp, Below.refl _ _⟩⟩
      case round =>
        obtain ⟨f, z, hf, rfl, rfl, HF⟩ := hrel
        have HBF := Lib.hid (HBJ.out.trans (HF.out.2.mono HBJ.out.size))
        have HF1 := Lib.hid HF.out.1
        have HF2 := Lib.hid HF.out.2
        have hzn : z ≤ n := by
          rw [HF1.out]
          refine Nat.le_trans (List.length_filter_le _ _) ?_
          rw [List.length_take]; omega
        by_cases hfn : f < n
        · have hfi : (f : Int) < (n : Int) := by omega
          obtain ⟨x, hx⟩ := getElem?_lt (l := l) (k := f) (by rw [HN.out]; exact hfn)
          obtain ⟨b, off, rfl, hcell⟩ := (HL.out.below HBF.out).rfs (by rw [HN.out]; omega)
          obtain ⟨p0, p1, p2, p3⟩ := hcell f x hx
          have HT := Lib.hid (take_snoc l f x hx)
          have hb1 : Below wr.heap.size wr (wr.alloc (.cells #[.int .i64 x.q, .int .i64 x.lv, .int .i64 x.lo, .int .i64 x.hi] 45)) := (Below.refl _ _).alloc (Nat.le_refl _) _
          have HA2 := Lib.hid (HF2.out.trans (hb1.mono HF2.out.size))
          obtain ⟨y0, y1, y2, y3⟩ := box4 (heap_alloc_new wr (.cells #[.int .i64 x.q, .int .i64 x.lv, .int .i64 x.lo, .int .i64 x.hi] 45))
          clear hcell hx hb1
          clear HF
          by_cases g1 : x.hi ≤ mark
          · have HZ := Lib.hid (show z + 1 = ((l.take (f + 1)).filter (belB mark)).length by rw [HT.out, filt_snoc, ← HF1.out, if_pos (by unfold belB; simpa using g1)])
            go_wp2_with fail
            go_roundw
            case rel => exact ⟨f + 1, z + 1, by omega, by go_num, by go_num, Lib.hid ⟨HZ.out, HA2.out⟩⟩
            case measure => simp [intOf]; omega
          · have HZ := Lib.hid (show z = ((l.take (f + 1)).filter (belB mark)).length by rw [HT.out, filt_snoc, ← HF1.out, if_neg (by unfold belB; simpa using g1)]; rfl)
            go_wp2_with fail
            go_roundw
            case rel => exact ⟨f + 1, z, by omega, by go_num, rfl, Lib.hid ⟨HZ.out, HA2.out⟩⟩
            case measure => simp [intOf]; omega
        · obtain rfl : f = n := by omega
          have hfi : ¬ ((f : Int) < (f : Int)) := by omega
          have hzx : z = j := by
            rw [HF1.out, List.take_of_length_le (by rw [HN.out]; exact Nat.le_refl _), ← HXN.out, HXL.out]
          subst hzx
          have HA11 := Lib.hid (HA10.out.below HF.out.2)
          clear HF
          go_wp2_with fail
          refine (awake_any _).mono ?_
          rintro e w12 ⟨rfl, hb⟩
          have HB12 := Lib.hid (HBF.out.trans (hb.mono HBF.out.size))
          have HA12 := Lib.hid (HA11.out.below hb)
          clear hb
          go_wp2_with fail
          refine (within_any A2 f c2 l lv low w12 HN.out.symm HA12.out HR.out.1 (by rw [HN.out]; omega) ⟨by omega, by omega⟩ (by omega)).mono ?_
          rintro e w13 ⟨v, rfl, A13, c13, rfl, ho, hb⟩
          have HB13 := Lib.hid (HB12.out.trans (hb.mono HB12.out.size))
          have HC13 := Lib.hid (own_cl ho)
          clear ho hb
          go_wp2_with fail
          refine (rwithin_any A f c l lv low w13 HN.out.symm (HL.out.below HB13.out) (by rw [HN.out]; omega) ⟨by omega, by omega⟩ (by omega) (by omega)).mono ?_
          rintro e w14 ⟨v, rfl, A14, c14, rfl, ho, hb⟩
          have HB14 := Lib.hid (HB13.out.trans (hb.mono HB13.out.size))
          have HC14 := Lib.hid (own_cl ho)
          have HC13b := Lib.hid (HC13.out.below hb)
          clear ho hb
          have hwl := withinF_length l lv low
          rw [HN.out] at hwl
          go_wp2_with fail
          have hii := ints_any A13 A14 (withinF l lv low).length c13 (withinF l lv low).length c14 (withinF l lv low) (withinF l lv low) w14 rfl rfl HC13b.out HC14.out (by omega) (by omega)
          simp only [decide_true] at hii
          refine hii.mono ?_
          rintro e w15 ⟨rfl, hb⟩
          have HB15 := Lib.hid (HB14.out.trans (hb.mono HB14.out.size))
          clear hb hii
          go_wp2_with fail
          go_ret
          exact ⟨rfl, HB15.out⟩
set_option maxRecDepth 100000 in
theorem next_long (A : Option Addr) (n c : Nat) (l : List It) (u low mark : Int) (w : World) (hn : n = l.length) (h : Cl w A (fC rfA l)) (hnm : n ≤ 9223372036854775807) (hc : 60 < n ∨ (n ≤ 60 ∧ ¬ RightL l) ∨ (n ≤ 60 ∧ RightL l ∧ (1125899906842624 < low ∨ low < -1125899906842624))) :
    Calls Try.prog 4 #[.slice A n c, .int .u8 u, .int .i64 low, .int .i64 mark] w fun e w' => e = .returned (.bool true) ∧ Below w.heap.size w w' := by
  rcases hc with h1 | ⟨h1, h3⟩ | ⟨h1, h3, h4⟩
  · have hn40 : (60 : Int) < (n : Int) := by omega
    clear hn h h1
    go_enter Try.func4, Try.ntmps4
    go_wp2_with fail
    refine (awake_any _).mono ?_
    rintro e w5 ⟨rfl, hb5⟩
    have HB5 := Lib.hid (hb5)
    clear hb5
    go_wp2_with fail
    go_ret
    exact ⟨rfl, HB5.out⟩
  · have hn40 : ¬ (60 : Int) < (n : Int) := by omega
    have HRT := Lib.hid (rnot_any A n c l w hn h (by omega) false (rightB_false h3))
    clear hn h h1 h3
    go_enter Try.func4, Try.ntmps4
    go_wp2_with fail
    refine HRT.out.mono ?_
    rintro e w1 ⟨rfl, hb1⟩
    have HB1 := Lib.hid hb1
    clear hb1
    go_wp2_with fail
    refine (awake_any _).mono ?_
    rintro e w5 ⟨rfl, hb5⟩
    have HB5 := Lib.hid (HB1.out.trans (hb5.mono HB1.out.size))
    clear hb5
    go_wp2_with fail
    go_ret
    exact ⟨rfl, HB5.out⟩
  · have hn40 : ¬ (60 : Int) < (n : Int) := by omega
    have HRT := Lib.hid (rnot_any A n c l w hn h (by omega) true (rightB_true h3))
    clear hn h h1 h3
    by_cases h5 : (1125899906842624 : Int) < low
    · clear h4
      go_enter Try.func4, Try.ntmps4
      go_wp2_with fail
      refine HRT.out.mono ?_
      rintro e w1 ⟨rfl, hb1⟩
      have HB1 := Lib.hid hb1
      clear hb1
      go_wp2_with fail
      refine (awake_any _).mono ?_
      rintro e w5 ⟨rfl, hb5⟩
      have HB5 := Lib.hid (HB1.out.trans (hb5.mono HB1.out.size))
      clear hb5
      go_wp2_with fail
      go_ret
      exact ⟨rfl, HB5.out⟩
    · have h6 : low < (-1125899906842624 : Int) := by omega
      have h5' : decide ((1125899906842624 : Int) < low) = false := by simpa using h5
      clear h4
      go_enter Try.func4, Try.ntmps4
      go_wp2_with fail
      refine HRT.out.mono ?_
      rintro e w1 ⟨rfl, hb1⟩
      have HB1 := Lib.hid hb1
      clear hb1
      go_wp2_with fail
      refine (awake_any _).mono ?_
      rintro e w5 ⟨rfl, hb5⟩
      have HB5 := Lib.hid (HB1.out.trans (hb5.mono HB1.out.size))
      clear hb5
      go_wp2_with fail
      go_ret
      exact ⟨rfl, HB5.out⟩
theorem next_walk (A : Option Addr) (n c : Nat) (l : List It) (u low mark : Int) (w : World) (hn : n = l.length) (h : Cl w A (fC rfA l)) (hnm : l.length ≤ 9223372036854775807) (hu : 0 ≤ u ∧ u < 256) :
    Calls Try.prog 4 #[.slice A n c, .int .u8 u, .int .i64 low, .int .i64 mark] w fun e w' => e = .returned (.bool true) ∧ Below w.heap.size w w' := by
  by_cases h1 : n ≤ 60
  · by_cases h3 : RightL l
    · by_cases h4 : low ≤ 1125899906842624 ∧ -1125899906842624 ≤ low
      · exact next_main A n c l u low mark w hn h h1 hu h4.1 h4.2 h3
      · exact next_long A n c l u low mark w hn h (by omega) (.inr (.inr ⟨h1, h3, by omega⟩))
    · exact next_long A n c l u low mark w hn h (by omega) (.inr (.inl ⟨h1, h3⟩))
  · exact next_long A n c l u low mark w hn h (by omega) (.inl (by omega))
end Go.Proofs.Ytpfceebmiolpeaa.Pl
