/- The law TombKeeps, for whatever comes in. -/
import Derived.Test.YtdmlogpmojmikaaTmP
import Derived.Test.YtdmlogpmojmikaaTmW
namespace Go.Proofs.Ytdmlogpmojmikaa.Tm
open Go.RowKit Go.Sort
set_option linter.unusedVariables false

/-- the samples at these times -/
def smL (zs : List Int) : List Sm := zs.mapIdx fun i t => (t, (i : Int))
theorem smL_length (zs : List Int) : (smL zs).length = zs.length := by simp [smL]
theorem smL_at {zs : List Int} {k : Nat} {z : Int} (h : zs[k]? = some z) : (smL zs)[k]? = some (z, (k : Int)) := by simp [smL, h]
theorem filter_at {α : Type} {l : List α} {f : α → Bool} {k : Nat} {x : α} (h : l[k]? = some x) (hx : f x = true) : (l.filter f)[((l.take k).filter f).length]? = some x := by
  obtain ⟨hk, rfl⟩ := List.getElem?_eq_some_iff.1 h
  have e : l = l.take k ++ l[k] :: l.drop (k + 1) := by rw [← List.drop_eq_getElem_cons hk, List.take_append_drop]
  have e2 : l.filter f = (l.take k).filter f ++ l[k] :: (l.drop (k + 1)).filter f := by
    conv => lhs; rw [e]
    rw [List.filter_append, List.filter_cons, if_pos hx]
  rw [e2]
  simp
theorem out_none (l : List Sm) : l.filter (out []) = l := by
  rw [List.filter_eq_self]
  intro p _
  simp [out, hasB, HasP]
theorem out_twice (X : List Rg) (l : List Sm) : (l.filter (out X)).filter (out X) = l.filter (out X) := by simp [List.filter_filter]
theorem empty_none (w : World) : Calls Try.prog 19 #[.agg #[.slice none 0 0]] w fun e w' => e = .returned (.bool true) ∧ Below w.heap.size w w' :=
  (empty_any (.agg #[.slice none 0 0]) [] w (St.nil w)).mono fun e w' ⟨he, hb⟩ => ⟨by rw [he]; simp, hb⟩
set_option maxHeartbeats 4000000 in
set_option maxRecDepth 100000 in
theorem keeps_main (A B : Option Addr) (n m c d : Nat) (a : List Rg) (zs : List Int) (w : World) (hn : n = a.length) (hm : m = zs.length) (hA : Cl w A (twoC .i64 a)) (hB : Cl w B (intsC .u16 zs)) (hz : ∀ z ∈ zs, 0 ≤ z ∧ z ≤ 65535) (hl : a.length ≤ 60) (hk : zs.length ≤ 100) :
    Calls Try.prog 5 #[.slice A n c, .slice B m d] w fun e w' => e = .returned (.bool true) ∧ Below w.heap.size w w' := by
  subst hn hm
  obtain ⟨n, hn⟩ : ∃ n, a.length = n := ⟨_, rfl⟩
  obtain ⟨m, hm⟩ : ∃ m, zs.length = m := ⟨_, rfl⟩
  have HT1 := Lib.hid (to_any A n c a w hn.symm hA (by omega))
  have HBB := Lib.hid hB
  have HZ := Lib.hid hz
  have HN := Lib.hid (And.intro hn hm)
  rw [hn] at hl
  rw [hm] at hk
  have hn60 : ¬ (60 : Int) < (n : Int) := by omega
  have hm100 : ¬ (100 : Int) < (m : Int) := by omega
  have hm1 : (m : Int) ≤ 100 := by omega
  rw [hn, hm]
  clear hn hm hA hB hz
  go_enter Try.func5, Try.ntmps5
  go_wp2_with fail
  refine HT1.out.mono ?_
  rintro e w2 ⟨A2, c2, rfl, ho2, hb2⟩
  rw [HN.out.1] at ho2 ⊢
  have HO2 := Lib.hid (of_any A2 n c2 a w2 HN.out.1.symm (own_cl ho2) (by have := HN.out.1; omega))
  have B2 := Lib.hid hb2
  have HB2 := Lib.hid (HBB.out.below hb2)
  clear ho2 hb2
  go_wp2_with fail
  refine HO2.out.mono ?_
  rintro e w3 ⟨v3, X, rfl, hx3, hl3, ⟨P, cp, rfl, zP, hP⟩, hb3⟩
  obtain ⟨N, hN⟩ : ∃ N, X.length = N := ⟨_, rfl⟩
  obtain ⟨W5, hW5⟩ : ∃ W5, w3.alloc (.cells #[.slice P N cp] 28) = W5 := ⟨_, rfl⟩
  obtain ⟨g5, hg5⟩ : ∃ g5, w3.heap.size = g5 := ⟨_, rfl⟩
  have c5 : Below w3.heap.size w3 W5 := hW5 ▸ grows _ _
  have x5 : W5.heap[g5]? = some (.cells #[.slice P N cp] 28 (0, 0)) := hg5 ▸ hW5 ▸ heap_alloc_new w3 _
  have HX := Lib.hid hx3.1
  have HXL := Lib.hid (show X.length ≤ 60 by have := HN.out.1; omega)
  have B5 := Lib.hid ((B2.out.trans (hb3.mono B2.out.size)).trans (c5.mono (B2.out.trans (hb3.mono B2.out.size)).size))
  have X5 := Lib.hid x5
  have HB5 := Lib.hid ((HB2.out.below hb3).below c5)
  have SX := Lib.hid (show St W5 (.agg #[.slice P N cp]) X from ⟨P, cp, by rw [hN], zP, hP.below c5⟩)
  rw [hN]
  clear hx3 hl3 zP hP hb3 hN c5 x5
  go_wp2_with fail
  clear hW5
  go_loopw [6, 29] (fun v6 i wr => ∃ k : Nat, k ≤ m ∧ i = .int .i64 k ∧ Hid (SRel W5 ((smL zs).take k) v6 wr)) (fun _ i _ => m - (intOf i).toNat)
  case atStart => exact ⟨0, by omega, rfl, Lib.hid ⟨none, 0, 0, rfl, own_nil _ _ _ _, Below.refl _ _⟩⟩
  case round =>
    obtain ⟨k, hk2, rfl, HR⟩ := hrel
    obtain ⟨C, p, e0, rfl, hown, hb⟩ := HR.out
    by_cases hlt : k < m
    · have hki : (k : Int) < (m : Int) := by omega
      obtain ⟨z, hz⟩ := getElem?_lt (l := zs) (k := k) (by rw [HN.out.2]; exact hlt)
      obtain ⟨b, off, rfl, hcell⟩ := (HB5.out.below hb).ints (by rw [HN.out.2]; omega)
      have q0 := hcell k z hz
      obtain ⟨z0, z1⟩ := HZ.out z (List.mem_of_getElem? hz)
      have HT := Lib.hid (take_snoc (smL zs) k (z, (k : Int)) (smL_at hz))
      obtain rfl : p = k := by rw [own_lenS hown, List.length_take, smL_length, HN.out.2]; omega
      have HO := Lib.hid hown
      have HB := Lib.hid hb
      clear hcell hz hown hb HR
      go_wp2_with (at_builtin; refine app_sm (W := W5) rfl _ _ rfl W5.heap.size C p e0 ((smL zs).take p) rfl HO.out HB.out HB.out.size (by omega) wr.heap.size rfl rfl (z, (p : Int)) ?_; intro A2 c2 w3 hown3 hb3 hw3; rw [← HT.out] at hown3; have HR3 := Lib.hid (show SRel W5 ((smL zs).take (p + 1)) (.slice A2 (p + 1) c2) w3 from ⟨A2, p + 1, c2, rfl, hown3, hb3⟩); clear hown3 hb3 hw3)
      go_roundw
      case rel => exact ⟨p + 1, by omega, by go_num, HR3⟩
      case measure => simp [intOf]; omega
    · obtain rfl : k = m := by omega
      have hki : ¬ ((k : Int) < (k : Int)) := by omega
      have htk : (smL zs).take k = smL zs := List.take_of_length_le (by rw [smL_length, HN.out.2]; exact Nat.le_refl _)
      rw [htk] at hown
      have hpk : p = k := by rw [own_lenS hown, smL_length, HN.out.2]
      subst hpk
      have hcl := own_cl hown
      have hz6 := own_none hown
      have HSL := Lib.hid (show (smL zs).length = p by rw [smL_length, HN.out.2])
      obtain ⟨l, hl⟩ : ∃ l, smL zs = l := ⟨_, rfl⟩
      rw [hl] at hcl HSL
      have x6 := (hb.block g5 (Array.getElem?_eq_some_iff.1 X5.out).1).trans X5.out
      obtain ⟨y0, _⟩ := box1 x6
      have HK1 := Lib.hid (keep_any (.agg #[.slice P N cp]) X C p e0 l wr HSL.out.symm (SX.out.below hb) HX.out (by have := HXL.out; omega) hcl (by rw [HSL.out]; omega))
      have HCL := Lib.hid hcl
      have X6 := Lib.hid x6
      have S6 := Lib.hid (SX.out.below hb)
      have B6 := Lib.hid (B5.out.trans (hb.mono B5.out.size))
      clear hown hb HR htk hcl x6 hz6
      go_wp2_with fail
      refine HK1.out.mono ?_
      rintro e w9 ⟨A9, c9, rfl, z9, hc9, hb9⟩
      have HFL := Lib.hid (show (l.filter (out X)).length ≤ p by have := List.length_filter_le (out X) l; have := HSL.out; omega)
      obtain ⟨q, hq⟩ : ∃ q, (l.filter (out X)).length = q := ⟨_, rfl⟩
      have HQ := Lib.hid hq
      have HC9 := Lib.hid hc9
      have x9 := (hb9.block g5 (Array.getElem?_eq_some_iff.1 X6.out).1).trans X6.out
      obtain ⟨y9, _⟩ := box1 x9
      have X9 := Lib.hid x9
      have S9 := Lib.hid (S6.out.below hb9)
      have B9 := Lib.hid (B6.out.trans (hb9.mono B6.out.size))
      have HCL9 := Lib.hid (HCL.out.below hb9)
      have hqp : q ≤ p := by rw [← hq]; exact HFL.out
      have HK2 := Lib.hid (keep_any (.agg #[.slice P N cp]) X A9 q c9 (l.filter (out X)) w9 hq.symm S9.out HX.out (by have := HXL.out; omega) hc9 (by rw [hq]; omega))
      rw [out_twice] at HK2
      rw [hq]
      clear hc9 z9 hb9 x9 hq y0
      go_wp2_with fail
      refine HK2.out.mono ?_
      rintro e w10 ⟨A10, c10, rfl, z10, hc10, hb10⟩
      rw [HQ.out]
      have x10 := (hb10.block g5 (Array.getElem?_eq_some_iff.1 X9.out).1).trans X9.out
      have X10 := Lib.hid x10
      have S10 := Lib.hid (S9.out.below hb10)
      have B10 := Lib.hid (B9.out.trans (hb10.mono B9.out.size))
      have HK10 := Lib.hid (HC9.out.below hb10)
      have HCL10 := Lib.hid (HCL9.out.below hb10)
      have hq1 : (q : Int) ≤ 100 := by omega
      clear hc10 z10 hb10 x10 y9 hl
      go_wp2_with fail
      go_loopw [11, 51] (fun v11 i wr => ∃ k : Nat, k ≤ p ∧ i = .int .i64 k ∧ v11 = .int .i64 ((((l.take k).filter (out X)).length : Nat) : Int) ∧ Hid (Below w10.heap.size w10 wr)) (fun _ i _ => p - (intOf i).toNat)
      case atStart => exact ⟨0, by omega, rfl, rfl, Lib.hid (Below.refl _ _)⟩
      case round =>
        obtain ⟨k, hkk, rfl, rfl, HBR⟩ := hrel
        by_cases hlt : k < p
        · have hki : (k : Int) < (p : Int) := by omega
          obtain ⟨s, hs⟩ := getElem?_lt (l := l) (k := k) (by rw [HSL.out]; exact hlt)
          obtain ⟨b, off, rfl, hcell⟩ := (HCL10.out.below HBR.out).sms (by rw [HSL.out]; omega)
          have hcp := hcell k s hs
          have HT := Lib.hid (take_snoc l k s hs)
          have HAT := Lib.hid (fun h => filter_at (f := out X) hs h)
          obtain ⟨j, hj⟩ : ∃ j, ((l.take k).filter (out X)).length = j := ⟨_, rfl⟩
          have hjk : j ≤ k := by
            rw [← hj]
            have h1 := List.length_filter_le (out X) (l.take k)
            rw [List.length_take] at h1
            omega
          rw [hj] at HAT ⊢
          have HJ := Lib.hid hj
          obtain ⟨p1, p2⟩ := s
          have q0 : wr.cell? ⟨b, off + k * 9, none⟩ = some (.int .i64 p1) := hcp 0 (by omega)
          have q1 : wr.cell? ⟨b, off + k * 9 + 1, none⟩ = some (.int .i64 0) := hcp 1 (by omega)
          have q2 : wr.cell? ⟨b, off + k * 9 + 2, none⟩ = some (.int .i64 0) := hcp 2 (by omega)
          have q3 : wr.cell? ⟨b, off + k * 9 + 3, none⟩ = some (.int .i64 0) := hcp 3 (by omega)
          have q4 : wr.cell? ⟨b, off + k * 9 + 4, none⟩ = some (.int .u64 0) := hcp 4 (by omega)
          have q5 : wr.cell? ⟨b, off + k * 9 + 5, none⟩ = some (.int .u64 0) := hcp 5 (by omega)
          have q6 : wr.cell? ⟨b, off + k * 9 + 6, none⟩ = some (.int .i64 p2) := hcp 6 (by omega)
          have q7 : wr.cell? ⟨b, off + k * 9 + 7, none⟩ = some (.slice none 0 0) := hcp 7 (by omega)
          have q8 : wr.cell? ⟨b, off + k * 9 + 8, none⟩ = some (.slice none 0 0) := hcp 8 (by omega)
          obtain ⟨W7, hW7⟩ : ∃ W7, wr.alloc (.cells #[.int .i64 p1, .int .i64 0, .int .i64 0, .int .i64 0, .int .u64 0, .int .u64 0, .int .i64 p2, .slice none 0 0, .slice none 0 0] 49 (0, 0)) = W7 := ⟨_, rfl⟩
          obtain ⟨g7, hg7⟩ : ∃ g7, wr.heap.size = g7 := ⟨_, rfl⟩
          have x7 : W7.heap[g7]? = some (.cells (smA (p1, p2)) 49 (0, 0)) := hg7 ▸ hW7 ▸ heap_alloc_new wr _
          have c7 : Below wr.heap.size wr W7 := hW7 ▸ grows wr _
          have HX7 := Lib.hid x7
          have B7 := Lib.hid (HBR.out.trans (c7.mono HBR.out.size))
          obtain ⟨z, hz⟩ : ∃ z, hasB X p1 = z := ⟨_, rfl⟩
          have HZ7 := Lib.hid hz
          have HH := Lib.hid (has_any (.agg #[.slice P N cp]) X p1 W7 (S10.out.below B7.out) HX.out (by have := HXL.out; omega))
          rw [hz] at HH
          have u0 : W7.cell? ⟨g7, 0, none⟩ = some (.int .i64 p1) := by rw [cell_of_row _ _ _ _ _ _ x7]; rfl
          have u2 := (box1 ((B7.out.block g5 (Array.getElem?_eq_some_iff.1 X10.out).1).trans X10.out)).1
          have u7 : W7.cell? ⟨g7, 7, none⟩ = some (.slice none 0 0) := by rw [cell_of_row _ _ _ _ _ _ x7]; rfl
          have u8 : W7.cell? ⟨g7, 8, none⟩ = some (.slice none 0 0) := by rw [cell_of_row _ _ _ _ _ _ x7]; rfl
          have uf7 : W7.frozen? ⟨g7, 7, none⟩ = false := by simp [World.frozen?, x7]
          have uf8 : W7.frozen? ⟨g7, 8, none⟩ = false := by simp [World.frozen?, x7]
          have ui7 : W7.setCell ⟨g7, 7, none⟩ (.slice none 0 0) = W7 := setCell_id x7 rfl
          have ui8 : W7.setCell ⟨g7, 8, none⟩ (.slice none 0 0) = W7 := setCell_id x7 rfl
          clear hcp hcell hs hz x7 c7 hj
          go_wp2_with fail
          clear hW7 q0 q1 q2 q3 q4 q5 q6 q7 q8 u0 u2 u7 u8 uf7 uf8 ui7 ui8
          refine HH.out.mono ?_
          rintro e w8 ⟨rfl, hb8⟩
          have x8 := (hb8.block g7 (Array.getElem?_eq_some_iff.1 HX7.out).1).trans HX7.out
          have B8 := Lib.hid (B7.out.trans (hb8.mono B7.out.size))
          cases z with
          | true =>
            have HF := Lib.hid (show ((l.take (k + 1)).filter (out X)).length = j by rw [HT.out, List.filter_append, List.filter_cons, ← HJ.out]; simp [out, HZ7.out])
            clear hb8 x8
            go_wp2_with fail
            go_roundw
            case rel => exact ⟨k + 1, by omega, by go_num, by rw [HF.out], B8⟩
            case measure => simp [intOf]; omega
          | false =>
            have HF := Lib.hid (show ((l.take (k + 1)).filter (out X)).length = j + 1 by rw [HT.out, List.filter_append, List.filter_cons, List.length_append, HJ.out]; simp [out, HZ7.out])
            have hjq := HAT.out (by simp [out, HZ7.out])
            have hjlt : j < q := by rw [← HQ.out]; exact (List.getElem?_eq_some_iff.1 hjq).1
            obtain ⟨b9, off9, rfl, hcell9⟩ := (HK10.out.below B8.out).sms (by rw [HQ.out]; omega)
            have hc9 := hcell9 j _ hjq
            have q0 : w8.cell? ⟨b9, off9 + j * 9, none⟩ = some (.int .i64 p1) := hc9 0 (by omega)
            have q6 : w8.cell? ⟨b9, off9 + j * 9 + 6, none⟩ = some (.int .i64 p2) := hc9 6 (by omega)
            have u0 : w8.cell? ⟨g7, 0, none⟩ = some (.int .i64 p1) := by rw [cell_of_row _ _ _ _ _ _ x8]; rfl
            have u6 : w8.cell? ⟨g7, 6, none⟩ = some (.int .i64 p2) := by rw [cell_of_row _ _ _ _ _ _ x8]; rfl
            have hji : decide ((q : Int) ≤ (j : Int)) = false := by simp; omega
            have hji2 : (j : Int) < (q : Int) := by omega
            have hji3 : decide (q ≤ j) = false := by simp; omega
            clear hb8 x8 hc9 hcell9 hjq
            go_wp2_with fail
            go_quiet (fail)
            go_wp2_with fail
            go_roundw
            case rel => exact ⟨k + 1, by omega, by go_num, by rw [HF.out]; go_num, Lib.hid (below_drewN B8.out _)⟩
            case measure => simp [intOf]; omega
        · obtain rfl : k = p := by omega
          have hki : ¬ ((k : Int) < (k : Int)) := by omega
          have hjq : ((l.take k).filter (out X)).length = q := by rw [List.take_of_length_le (by rw [HSL.out]; exact Nat.le_refl _), HQ.out]
          rw [hjq]
          clear hjq
          obtain ⟨W14, hW14⟩ : ∃ W14, wr.alloc (.cells #[.slice none 0 0] 28 (0, 0)) = W14 := ⟨_, rfl⟩
          obtain ⟨g14, hg14⟩ : ∃ g14, wr.heap.size = g14 := ⟨_, rfl⟩
          have c14 : Below wr.heap.size wr W14 := hW14 ▸ grows wr _
          have X14 := Lib.hid (show W14.heap[g14]? = some (.cells #[.slice none 0 0] 28 (0, 0)) from hg14 ▸ hW14 ▸ heap_alloc_new wr _)
          have B14 := Lib.hid (HBR.out.trans (c14.mono HBR.out.size))
          have HAW := Lib.hid (awake14 W14)
          clear c14
          go_wp2_with fail
          clear hW14
          refine HAW.out.mono ?_
          rintro e w15 ⟨rfl, hb15⟩
          have x15 := (hb15.block g14 (Array.getElem?_eq_some_iff.1 X14.out).1).trans X14.out
          obtain ⟨y15, _⟩ := box1 x15
          have X15 := Lib.hid x15
          have B15 := Lib.hid (B14.out.trans (hb15.mono B14.out.size))
          have HK3 := Lib.hid (keep_any (.agg #[.slice none 0 0]) [] C k e0 l w15 HSL.out.symm (St.nil w15) can_nil (by simp) (HCL10.out.below B15.out) (by rw [HSL.out]; omega))
          rw [out_none] at HK3
          clear hb15 x15
          go_wp2_with fail
          refine HK3.out.mono ?_
          rintro e w16 ⟨A16, c16, rfl, z16, hc16, hb16⟩
          rw [HSL.out]
          have x16 := (hb16.block g14 (Array.getElem?_eq_some_iff.1 X15.out).1).trans X15.out
          obtain ⟨y16, _⟩ := box1 x16
          have X16 := Lib.hid x16
          have B16 := Lib.hid (B15.out.trans (hb16.mono B15.out.size))
          have HE := Lib.hid (empty_none w16)
          clear hc16 z16 hb16 x16 y15
          go_wp2_with fail
          refine HE.out.mono ?_
          rintro e w17 ⟨rfl, hb17⟩
          have x17 := (hb17.block g14 (Array.getElem?_eq_some_iff.1 X16.out).1).trans X16.out
          obtain ⟨y17, _⟩ := box1 x17
          have B17 := Lib.hid (B16.out.trans (hb17.mono B16.out.size))
          have HH := Lib.hid (has_any (.agg #[.slice none 0 0]) [] 0 w17 (St.nil w17) can_nil (by simp))
          have hh0 : hasB [] 0 = false := by simp [hasB, HasP]
          rw [hh0] at HH
          clear hb17 x17 y16 hh0
          go_wp2_with fail
          refine HH.out.mono ?_
          rintro e w18 ⟨rfl, hb18⟩
          have B18 := Lib.hid (B10.out.trans ((B17.out.trans (hb18.mono B17.out.size)).mono B10.out.size))
          clear hb18
          go_wp2_with fail
          go_ret
          exact ⟨rfl, B18.out⟩
theorem keeps_long (A B : Option Addr) (n m c d : Nat) (w : World) (hn : n ≤ 9223372036854775807) (hm : m ≤ 9223372036854775807) (h : 60 < n ∨ 100 < m) :
    Calls Try.prog 5 #[.slice A n c, .slice B m d] w fun e w' => e = .returned (.bool true) ∧ Below w.heap.size w w' := by
  have HA := Lib.hid (awake14 w)
  by_cases h1 : 60 < n
  · have hn60 : (60 : Int) < (n : Int) := by omega
    clear h h1
    go_enter Try.func5, Try.ntmps5
    go_wp2_with fail
    refine HA.out.mono ?_
    rintro e w2 ⟨rfl, hb⟩
    go_wp2_with fail
    go_ret
    exact ⟨rfl, hb⟩
  · have hn60 : ¬ (60 : Int) < (n : Int) := by omega
    have hm60 : (100 : Int) < (m : Int) := by omega
    clear h h1
    go_enter Try.func5, Try.ntmps5
    go_wp2_with fail
    refine HA.out.mono ?_
    rintro e w2 ⟨rfl, hb⟩
    go_wp2_with fail
    go_ret
    exact ⟨rfl, hb⟩
theorem tombKeeps_walk (A B : Option Addr) (n m c d : Nat) (a : List Rg) (zs : List Int) (w : World) (hn : n = a.length) (hA : Cl w A (twoC .i64 a)) (zn : a.length ≤ 9223372036854775807) (hB : RowIn .u16 w B m d zs) :
    Calls Try.prog 5 #[.slice A n c, .slice B m d] w fun e w' => e = .returned (.bool true) ∧ Below w.heap.size w w' := by
  obtain ⟨l, rfl, hS, hw, hlc, hcm⟩ := cl_of_row hB
  by_cases hl : a.length ≤ 60
  · by_cases hk : l.length ≤ 100
    · exact keeps_main A B n l.length c d a l w hn rfl hA hS (fun z hz => by have := bounds_u16 (hw z hz); omega) hl hk
    · exact keeps_long A B n l.length c d w (by omega) (by omega) (.inr (by omega))
  · exact keeps_long A B n l.length c d w (by omega) (by omega) (.inl (by omega))
end Go.Proofs.Ytdmlogpmojmikaa.Tm
