/- The law HistCells: its walk, one case. -/
import Derived.Test.YtjceickkbhhoaaaHsCa
import Derived.Test.YtjceickkbhhoaaaHsR
import Derived.Test.YtjceickkbhhoaaaHsZ
namespace Go.Proofs.Ytjceickkbhhoaaa
open Go.RowKit Go.Sort Go.Maps
set_option linter.unusedVariables false

set_option maxHeartbeats 8000000 in
set_option maxRecDepth 100000 in
theorem cells_z1 (k s z zc ct sm : Int) (A B : Option Addr) (c d : Nat) (P Q : List (Int × Int)) (idx : Int) (w : World) (hs : I64 s) (hzp : 0 < zc) (z1 : zc ≤ 18446744073709551615) (hP : Bk w A P) (hQ : Bk w B Q) (hck : checkF k s z (zc) ct P Q = 0) :
    Calls Try.prog 3 #[.agg #[.int .i64 k, .int .i64 s, .int .i64 z, .int .u64 (zc), .int .u64 ct, .int .i64 sm, .slice A P.length c, .slice B Q.length d], .int .i64 (0), .int .i64 idx] w fun e w' => e = .returned (.bool true) ∧ Below w.heap.size w w' := by
  have hb0 : Below w.heap.size w (w.alloc (.cells #[.int .i64 k, .int .i64 s, .int .i64 z, .int .u64 (zc), .int .u64 ct, .int .i64 sm, .slice A P.length c, .slice B Q.length d] 25)) := (Below.refl _ _).alloc (Nat.le_refl _) _
  have HBX := Lib.hid (box8b (heap_alloc_new w (.cells #[.int .i64 k, .int .i64 s, .int .i64 z, .int .u64 (zc), .int .u64 ct, .int .i64 sm, .slice A P.length c, .slice B Q.length d] 25)))
  have HP := Lib.hid (hP.below hb0)
  have HQ := Lib.hid (hQ.below hb0)
  have HB0 := Lib.hid hb0
  have HCK := Lib.hid hck
  obtain ⟨_, q1, q2, q3, q4⟩ := check_zero hck
  obtain ⟨l1, aP, m1⟩ := side_zero q1
  obtain ⟨l2, aQ, m2⟩ := side_zero q2
  have HA := Lib.hid (And.intro aP aQ)
  have HK := Lib.hid (show (keysF s (zc) P Q).Nodup ∧ Ins (keysF s (zc) P Q) from ⟨keys_nodup aP aQ, keys_ins hs hP.2.1 hQ.2.1⟩)
  have HNZ := Lib.hid (And.intro m1 m2)
  have HPS := Lib.hid (keys_pos (s := s) aP aQ (show (0 : Int) ≤ zc by omega) (fun p hp => by have := (hP.2.1 p hp).2.2.1; have := m1 p hp; omega) (fun p hp => by have := (hQ.2.1 p hp).2.2.1; have := m2 p hp; omega))
  have HT := Lib.hid (show cnt (P ++ Q) ≤ 18446744073709551615 by omega)
  have HS := Lib.hid hs
  have hmm := @run_makeMap Try.prog
  have hz1 : decide (0 < zc) = true := by simpa using hzp
  clear hP hQ hb0 hck q1 q2 q3 q4 aP aQ m1 m2 hs
  obtain ⟨w0, hw0⟩ : ∃ W, w.alloc (.cells #[.int .i64 k, .int .i64 s, .int .i64 z, .int .u64 (zc), .int .u64 ct, .int .i64 sm, .slice A P.length c, .slice B Q.length d] 25) = W := ⟨_, rfl⟩
  rw [hw0] at HBX HP HQ HB0
  have HW0 := Lib.hid hw0
  go_enter Try.func3, Try.ntmps3
  clear hw0
  go_upto_region 1 with fail
  try rw [HW0.out]
  obtain ⟨x0, x1, x2, x3, x4, x5, x6, x7⟩ := HBX.out w0 (Below.refl _ _)
  go_wp2_with fail
  refine (light_any _ _ _ _ _ _ _ _ _ _ _ _ _ true (by rw [decide_eq_true (show P.length ≤ 600 by omega), decide_eq_true (show Q.length ≤ 600 by omega)]; rfl)).mono ?_
  rintro e w1 ⟨rfl, hb1⟩
  have HB1 := Lib.hid hb1
  clear hb1 x0 x1 x2 x3 x4 x5 x6 x7
  obtain ⟨x0, x1, x2, x3, x4, x5, x6, x7⟩ := HBX.out w1 HB1.out
  go_wp2_with fail
  refine (refcheckN _ _ _ _ _ _ _ _ _ _ _ _ _ (by omega) (by omega) (HP.out.below HB1.out) (HQ.out.below HB1.out) 0 HCK.out).mono ?_
  rintro e w2 ⟨rfl, hb2⟩
  have HB2 := Lib.hid (HB1.out.trans (hb2.mono HB1.out.size))
  clear x0 x1 x2 x3 x4 x5 x6 x7 hb2
  obtain ⟨x0, x1, x2, x3, x4, x5, x6, x7⟩ := HBX.out w2 HB2.out
  go_wp2_with fail
  refine (cells_any _ _ _ _ _ _ _ _ _ _ _ _ _ HS.out (by omega) (by omega) (HP.out.below HB2.out) (HQ.out.below HB2.out) (by omega) (by omega) HT.out).mono ?_
  rintro e w3 ⟨b, n, rfl, hn, hM⟩
  have HB3 := Lib.hid (HB2.out.trans (hM.2.2.mono HB2.out.size))
  obtain ⟨D, hown, hrd⟩ := hM.1
  have HRD := Lib.hid hrd
  have HO := Lib.hid hown
  clear x0 x1 x2 x3 x4 x5 x6 x7 hM hown hrd
  obtain ⟨x0, x1, x2, x3, x4, x5, x6, x7⟩ := HBX.out w3 HB3.out
  have HLK := Lib.hid (fun (W : World) (hW : Below w3.heap.size w3 W) (a c i v : Int) (ha : I64 a) (hc : I64 c) (hi : I64 i) (hv : cF s (zc) P Q a c i = v) => lookup_cell (HO.out.kept (below_grownBy hW) (by simp)) HRD.out ha hc hi hv)
  have HF := Lib.hid (fun (W : World) (hW : Below w3.heap.size w3 W) => HB3.out.trans (hW.mono HB3.out.size))
  have hlz : ∀ q, (Instr.lookup 29 (.map (some b)) (.agg #[.int .i64 0, .int .i64 0, .int .i64 0]) false).run Try.prog (w3.drewN q) = .ok (.int .u64 zc) (w3.drewN q) := fun q => HLK.out _ (below_drewN (Below.refl _ _) q) 0 0 0 zc ⟨by decide, by decide⟩ ⟨by decide, by decide⟩ ⟨by decide, by decide⟩ (by rw [cF_val]; simp)
  have hzz : (zc != zc) = false := by simp
  go_wp2_with fail
  go_quiet (fail)
  clear hlz
  go_upto_region 10 with fail
  obtain ⟨w4, hw4⟩ : ∃ W, w3.drewN nq = W := ⟨_, rfl⟩
  have HB4 := Lib.hid (show Below w3.heap.size w3 w4 from by rw [← hw4]; exact below_drewN (Below.refl _ _) nq)
  rw [hw4]
  clear hw4 x0 x1 x2 x3 x4 x5 x6 x7
  obtain ⟨x0, x1, x2, x3, x4, x5, x6, x7⟩ := HBX.out (w4.alloc (.map #[] 0)) (HF.out _ (HB4.out.alloc HB4.out.size _))
  have HM0 := Lib.hid (World.ownsMap_made w4 Try.prog 3 RV)
  have HBm := Lib.hid (HB4.out.alloc HB4.out.size (.map #[] 0))
  have hmx : (0 : Nat) < maxLen ∧ 1 < maxLen := by unfold maxLen; omega
  have hmw : w3.heap.size ≤ w4.heap.size := HB4.out.size
  go_wp2_with (refine wpList_lit_entry rfl _ _ _ rfl w4.heap.size 0 (.map []) rfl HM0.out hmx.1 1 _ rfl rfl key_one ?_)
  intro w5 ho5 hg5
  have HB5 := Lib.hid (HBm.out.grown hg5 HBm.out.size (fun k hk => by cases hk; exact hmw))
  have HO5 := Lib.hid ho5
  clear ho5 hg5 x0 x1 x2 x3 x4 x5 x6 x7
  obtain ⟨x0, x1, x2, x3, x4, x5, x6, x7⟩ := HBX.out w5 (HF.out _ HB5.out)
  go_wp2_with (refine wpList_lit_entry rfl _ _ _ rfl w4.heap.size 1 _ rfl HO5.out hmx.2 (-1) _ rfl rfl key_neg ?_)
  intro w6 ho6 hg6
  have HB6 := Lib.hid (HB5.out.grown hg6 HB5.out.size (fun k hk => by cases hk; exact hmw))
  have HO6 := Lib.hid (show w6.ownsMap Try.prog 3 RV w4.heap.size 2 (D2 (.slice A P.length c) (.slice B Q.length d)) from ho6)
  clear ho6 hg6 x0 x1 x2 x3 x4 x5 x6 x7
  go_wp2_with (refine wpList_range_own _ rfl _ _ rfl 3 23 keyI Try.underlying33 RV w4.heap.size 2 _ rfl HO6.out ?_)
  intro w7 hrg hg7 hs7
  have HB7 := Lib.hid (HB6.out.grown hg7 HB6.out.size (fun k hk => by cases hk))
  have hrr : w3.heap.size ≤ w6.heap.size := HB6.out.size
  have HRG := Lib.hid hrg
  clear hrg hg7 hs7
  obtain ⟨r, hr⟩ : ∃ r, w6.heap.size = r := ⟨_, rfl⟩
  obtain ⟨m, hm⟩ : ∃ m, w4.heap.size = m := ⟨_, rfl⟩
  rw [hr] at HRG hrr
  rw [hr]
  rw [hm] at HRG hmw
  try rw [hm]
  have HST := Lib.hid (show CeRel (0) idx 1 P Q (.slice A P.length c) (.slice B Q.length d) w3 m r (.int .u64 0) (.int .i64 1) w7 from
    ⟨_, _, false, false, HRG.out, fun x hx => by rcases (d2_has _ _ x).1 hx with h | h; exact .inl ⟨h, rfl⟩; exact .inr ⟨h, rfl⟩, fun _ => (d2_has _ _ 1).2 (.inl rfl), fun _ => (d2_has _ _ (-1)).2 (.inr rfl), by simp [aF], by simp [nF], HB7.out⟩)
  clear hm hr HRG HM0 HO5 HO6 HB7
  go_wp2_with fail
  go_loopw [7, 8] (fun s7 s8 wr => CeRel (0) idx 1 P Q (.slice A P.length c) (.slice B Q.length d) w3 m r s7 s8 wr) (fun _ _ wr => wr.rangeLeft m r)
  case atStart => exact HST.out
  case round =>
    obtain ⟨left, cnt, p, q, hrng, hl1, hl2, hl3, rfl, rfl, hb⟩ := hrel
    have HB := Lib.hid hb
    have HR := Lib.hid hrng
    have HL := Lib.hid (And.intro hl1 (And.intro hl2 hl3))
    clear hl1 hl2 hl3 hb
    go_wp2_with (first
      | (at_next; refine wpList_next_ranges _ rfl _ rfl 3 keyI RV (Value.int .i64) (fun v : Value => v) (fun key kl hk => by obtain ⟨x, rfl, _⟩ := keyOf_int_inv Try.underlying3 hk; exact ⟨x, rfl⟩) (fun v y _ => ⟨v, rfl⟩) m r 2 _ left cnt rfl hrng ?_ ?_))
    · intro hc0 hl0
      have hp : p = true := by
        cases p with
        | true => rfl
        | false => have := HL.out.2.1 rfl; rw [hl0] at this; cases this
      have hq : q = true := by
        cases q with
        | true => rfl
        | false => have := HL.out.2.2 rfl; rw [hl0] at this; cases this
      subst hp
      subst hq
      clear hc0 hl0 hrng
      have hsz : (Maps.size D : Int) = aF 1 true true P Q := by
        rw [HRD.out.size_eq (keysF s (zc) P Q) HK.out.1 HK.out.2 (fun a c i ha hc hi => ⟨fun h => (keys_mem h).1, fun h => Int.ne_of_gt (HPS.out (a, c, i) h)⟩), keys_len]
        simp [aF, show zc ≠ 0 by omega]
      obtain ⟨tot, htot⟩ : ∃ t, aF 1 true true P Q = t := ⟨_, rfl⟩
      rw [htot] at hsz
      rw [htot]
      have HSZ := Lib.hid (show ((Maps.size D : Int) == tot) = true from by simpa using hsz)
      have HV := Lib.hid (show atV (zc) 0 idx P Q = (zc) from by unfold atV; simp)
      have hnn : ((zc : Int) == (zc)) = true := by simp
      clear hsz htot
      obtain ⟨x0, x1, x2, x3, x4, x5, x6, x7⟩ := HBX.out wr (HF.out _ HB.out)
      go_wp2_with fail
      refine (awake05 _).mono ?_
      rintro e w9 ⟨rfl, hb9⟩
      have HB9 := Lib.hid (HB.out.trans (hb9.mono HB.out.size))
      clear hb9 x0 x1 x2 x3 x4 x5 x6 x7
      have HO9 := Lib.hid (HO.out.kept (below_grownBy HB9.out) (by simp))
      obtain ⟨x0, x1, x2, x3, x4, x5, x6, x7⟩ := HBX.out w9 (HF.out _ HB9.out)
      have hsb := HSZ.out
      have hln := fun ty => HO9.out.len Try.underlying29 ty
      go_wp2_with fail
      refine (atN _ _ _ _ _ _ _ _ _ _ _ _ _ _ _ (HP.out.below (HF.out _ HB9.out)) (HQ.out.below (HF.out _ HB9.out)) HA.out.1 HA.out.2 (by omega) (by omega) (zc) HV.out).mono ?_
      rintro e w10 ⟨rfl, hb10⟩
      have HB10 := Lib.hid (HB9.out.trans (hb10.mono HB9.out.size))
      clear hln hb10 x0 x1 x2 x3 x4 x5 x6 x7
      go_wp2_with fail
      go_ret
      exact ⟨rfl, HB0.out.trans ((HF.out _ HB10.out).mono HB0.out.size)⟩
    · intro x v kl yd yp w8 cnt2 hkey hlk hv hat hrg2 hlt hg2 hs2 hen
      obtain ⟨x', ex, hkl, _⟩ := keyOf_int_inv Try.underlying3 hkey
      have hxx : x = x' := by simpa using ex
      subst hxx
      subst hkl
      have hvd : ∀ zd, (D2 (.slice A P.length c) (.slice B Q.length d)).atKey (.int .i64 x) zd = .held v := fun zd => by
        have h1 := hat zd
        simp [RV] at hv
        rw [h1, ← hv.1]
      have HB8 := Lib.hid (HB.out.grown hg2 HB.out.size (fun k hk => by cases hk; exact hrr))
      have HR8 := Lib.hid (And.intro hrg2 hlt)
      have hll := HL.out.1 x hlk
      clear hkey hlk hv hat hrg2 hlt hg2 hs2 ex hrng
      rcases hll with ⟨rfl, rfl⟩ | ⟨rfl, rfl⟩
      · obtain rfl : v = .slice A P.length c := by have h := hvd .nil; rw [d2_one] at h; simpa using h.symm
        clear hvd
        have HB8f := Lib.hid (HF.out _ HB8.out)
        obtain ⟨n1, hn1⟩ : ∃ t, nF (0) idx false q P Q = t := ⟨_, rfl⟩
        obtain ⟨a1, ha1⟩ : ∃ t, aF 1 false q P Q = t := ⟨_, rfl⟩
        have HN1 := Lib.hid hn1
        have HA1 := Lib.hid ha1
        rw [hn1, ha1]
        clear hn1 ha1
        have hab0 : 0 ≤ a1 := by rw [← HA1.out]; unfold aF; (repeat' split) <;> omega
        have hab1 : a1 ≤ 2000 := by rw [← HA1.out]; unfold aF; (repeat' split) <;> omega
        have HMI := Lib.hid (show n1 = mF false (atI (P.take 0) idx) n1 from by simp [mF])
        go_wp2_with fail
        go_loopw [7, 8, 50] (fun s7 s8 s50 wr => CiRel false idx a1 n1 P w8 s7 s8 s50 wr) (fun _ _ s50 _ => P.length - (intOf s50).toNat)
        case atStart => exact ⟨0, by omega, rfl, by simp, by rw [← HMI.out], Below.refl _ _⟩
        case round =>
          obtain ⟨j, hj, rfl, rfl, rfl, hbi⟩ := hrel
          have HBi := Lib.hid hbi
          have HBj := Lib.hid (HB8.out.trans (hbi.mono HB8.out.size))
          clear hbi
          by_cases hlj : j < P.length
          · obtain ⟨b', off', hA', hc'⟩ := (HP.out.below (HF.out _ HBj.out)).some_ (by omega)
            obtain ⟨⟨pi, pc⟩, hp⟩ := getElem?_lt hlj
            obtain ⟨q1, q2⟩ := hc' j (pi, pc) hp
            have hwb := HP.out.2.1 (pi, pc) (mem_of_at hp)
            simp only at q1 q2
            have hji : (j : Int) < (P.length : Int) := by omega
            have hblt := block_lt_of_cell q1
            simp only at hblt
            have HTK := Lib.hid (show atI (P.take (j + 1)) idx = if pi = idx then pc else atI (P.take j) idx from atI_take HA.out.1 hp idx)
            have HVAL := Lib.hid (show cF s (zc) P Q (1) s pi = pc ∧ atV (zc) (1) pi P Q = pc from by
              have h1 := atI_asc HA.out.1 (show (pi, pc) ∈ P from mem_of_at hp)
              constructor
              · rw [cF_val]; simp; exact h1
              · unfold atV; simp; exact h1)
            obtain ⟨w1', w2', w3', w4'⟩ := hwb
            clear hc' hp
            obtain ⟨mv, hmv⟩ : ∃ t, mF false (atI (P.take j) idx) n1 = t := ⟨_, rfl⟩
            have HMV := Lib.hid hmv
            rw [hmv]
            clear hmv
            subst hA'
            obtain ⟨x0, x1, x2, x3, x4, x5, x6, x7⟩ := HBX.out (wr.alloc (.cells #[.int .i64 pi, .int .u64 pc] 35)) (HF.out _ (HBj.out.alloc HBj.out.size _))
            go_upto_region 17 with fail
            obtain ⟨wB, hwB⟩ : ∃ W, wr.alloc (.cells #[.int .i64 pi, .int .u64 pc] 35) = W := ⟨_, rfl⟩
            have hBB : Below w3.heap.size w3 wB := by rw [← hwB]; exact HBj.out.alloc HBj.out.size _
            have hB8 : Below w8.heap.size w8 wB := by rw [← hwB]; exact HBi.out.alloc HBi.out.size _
            have k0 : wB.cell? ⟨wr.heap.size, 0, none⟩ = some (.int .i64 pi) := by rw [← hwB]; simp [go_sem]
            have k1 : wB.cell? ⟨wr.heap.size, 1, none⟩ = some (.int .u64 pc) := by rw [← hwB]; simp [go_sem]
            rw [hwB] at x0 x1 x2 x3 x4 x5 x6 x7
            rw [hwB]
            clear hwB q1 q2
            have c0' := cell_regrown x0
            have c1' := cell_regrown x1
            have c2' := cell_regrown x2
            have c3' := cell_regrown x3
            have c4' := cell_regrown x4
            have c5' := cell_regrown x5
            have c6' := cell_regrown x6
            have c7' := cell_regrown x7
            have k0' := cell_regrown k0
            have k1' := cell_regrown k1
            have hlk : ∀ (dq : Nat) (osq : Array Obj), (Instr.lookup 29 (.map (some b)) (.agg #[.int .i64 (1), .int .i64 s, .int .i64 pi]) false).run Try.prog (grow (redrawn wB dq) osq) = .ok (.int .u64 pc) (grow (redrawn wB dq) osq) := fun dq osq => HLK.out _ (hBB.trans ((below_regrown wB dq osq).mono hBB.size)) (1) s pi pc ⟨by decide, by decide⟩ HS.out ⟨w1', w2'⟩ HVAL.out.1
            have hcc : (pc != pc) = false := by simp
            have HPr := Lib.hid (fun (dq : Nat) (osq : Array Obj) => HP.out.below (HF.out _ (hBB.trans ((below_regrown wB dq osq).mono hBB.size))))
            have HQr := Lib.hid (fun (dq : Nat) (osq : Array Obj) => HQ.out.below (HF.out _ (hBB.trans ((below_regrown wB dq osq).mono hBB.size))))
            have HBB := Lib.hid (And.intro hBB hB8)
            clear hBB hB8
            refine wp_region_quiet_below (by kernel_rfl) (by kernel_rfl) ?_
            repeat (any_goals (first | go_big_quiet_step ((go_at_call 11; (with_reducible exact Calls.regrown_of (atN _ _ _ _ _ _ _ _ _ _ _ _ _ _ _ (HPr.out _ _) (HQr.out _ _) HA.out.1 HA.out.2 (by omega) (by omega) pc HVAL.out.2)))) | quiet_step ((go_at_call 11; (with_reducible exact Calls.regrown_of (atN _ _ _ _ _ _ _ _ _ _ _ _ _ _ _ (HPr.out _ _) (HQr.out _ _) HA.out.1 HA.out.2 (by omega) (by omega) pc HVAL.out.2))))))
            refine wpQuiet_nil ?_
            intro _ hw'
            obtain ⟨⟨dq, osq⟩, hw''⟩ := hw'
            subst hw''
            have HBG := Lib.hid (And.intro (HBB.out.1.trans ((below_regrown wB dq osq).mono HBB.out.1.size)) (HBB.out.2.trans ((below_regrown wB dq osq).mono HBB.out.2.size)))
            have y0 := k0' dq osq
            have y1 := k1' dq osq
            clear c0' c1' c2' c3' c4' c5' c6' c7' k0' k1' hlk HPr HQr x0 x1 x2 x3 x4 x5 x6 x7 k0 k1 HBB
            generalize grow (redrawn wB dq) osq = wG at *
            go_wp2_with fail
            go_roundw
            case rel => first | exact ⟨j + 1, by omega, by go_num, by go_num, by rw [← HMV.out]; simp [mF], HBG.out.2⟩ | ((repeat apply Exists.intro); exact ⟨⟨j + 1, by omega, by go_num, by go_num, by rw [← HMV.out]; simp [mF], HBG.out.2⟩, rfl⟩)
            case measure => simp [intOf]; omega
          · obtain rfl : j = P.length := by omega
            have hji : ¬ ((P.length : Int) < (P.length : Int)) := by omega
            have HRx := Lib.hid (HR8.out.1.kept (below_grownBy HBi.out) (by simp) (by simp))
            have HLx := Lib.hid (left_one (fun x hx => by simpa using HL.out.1 x hx) HL.out.2.2)
            go_wp2_with fail
            go_roundw
            case rel => first | exact ⟨_, cnt2, true, q, HRx.out, HLx.out.1, (fun h => by cases h), HLx.out.2, by rw [← HA1.out]; simp [aF]; try omega, by simp only [mF, List.take_length]; rw [← HN1.out]; simp [nF]; try omega, HBj.out⟩ | ((repeat apply Exists.intro); exact ⟨⟨_, cnt2, true, q, HRx.out, HLx.out.1, (fun h => by cases h), HLx.out.2, by rw [← HA1.out]; simp [aF]; try omega, by simp only [mF, List.take_length]; rw [← HN1.out]; simp [nF]; try omega, HBj.out⟩, rfl⟩)
            case measure => rw [HRx.out.left_eq, HR.out.left_eq]; exact HR8.out.2
      · obtain rfl : v = .slice B Q.length d := by have h := hvd .nil; rw [d2_neg] at h; simpa using h.symm
        clear hvd
        have HB8f := Lib.hid (HF.out _ HB8.out)
        obtain ⟨n1, hn1⟩ : ∃ t, nF (0) idx p false P Q = t := ⟨_, rfl⟩
        obtain ⟨a1, ha1⟩ : ∃ t, aF 1 p false P Q = t := ⟨_, rfl⟩
        have HN1 := Lib.hid hn1
        have HA1 := Lib.hid ha1
        rw [hn1, ha1]
        clear hn1 ha1
        have hab0 : 0 ≤ a1 := by rw [← HA1.out]; unfold aF; (repeat' split) <;> omega
        have hab1 : a1 ≤ 2000 := by rw [← HA1.out]; unfold aF; (repeat' split) <;> omega
        have HMI := Lib.hid (show n1 = mF false (atI (Q.take 0) idx) n1 from by simp [mF])
        go_wp2_with fail
        go_loopw [7, 8, 50] (fun s7 s8 s50 wr => CiRel false idx a1 n1 Q w8 s7 s8 s50 wr) (fun _ _ s50 _ => Q.length - (intOf s50).toNat)
        case atStart => exact ⟨0, by omega, rfl, by simp, by rw [← HMI.out], Below.refl _ _⟩
        case round =>
          obtain ⟨j, hj, rfl, rfl, rfl, hbi⟩ := hrel
          have HBi := Lib.hid hbi
          have HBj := Lib.hid (HB8.out.trans (hbi.mono HB8.out.size))
          clear hbi
          by_cases hlj : j < Q.length
          · obtain ⟨b', off', hA', hc'⟩ := (HQ.out.below (HF.out _ HBj.out)).some_ (by omega)
            obtain ⟨⟨pi, pc⟩, hp⟩ := getElem?_lt hlj
            obtain ⟨q1, q2⟩ := hc' j (pi, pc) hp
            have hwb := HQ.out.2.1 (pi, pc) (mem_of_at hp)
            simp only at q1 q2
            have hji : (j : Int) < (Q.length : Int) := by omega
            have hblt := block_lt_of_cell q1
            simp only at hblt
            have HTK := Lib.hid (show atI (Q.take (j + 1)) idx = if pi = idx then pc else atI (Q.take j) idx from atI_take HA.out.2 hp idx)
            have HVAL := Lib.hid (show cF s (zc) P Q (-1) s pi = pc ∧ atV (zc) (-1) pi P Q = pc from by
              have h1 := atI_asc HA.out.2 (show (pi, pc) ∈ Q from mem_of_at hp)
              constructor
              · rw [cF_val]; simp; exact h1
              · unfold atV; simp; exact h1)
            obtain ⟨w1', w2', w3', w4'⟩ := hwb
            clear hc' hp
            obtain ⟨mv, hmv⟩ : ∃ t, mF false (atI (Q.take j) idx) n1 = t := ⟨_, rfl⟩
            have HMV := Lib.hid hmv
            rw [hmv]
            clear hmv
            subst hA'
            obtain ⟨x0, x1, x2, x3, x4, x5, x6, x7⟩ := HBX.out (wr.alloc (.cells #[.int .i64 pi, .int .u64 pc] 35)) (HF.out _ (HBj.out.alloc HBj.out.size _))
            go_upto_region 17 with fail
            obtain ⟨wB, hwB⟩ : ∃ W, wr.alloc (.cells #[.int .i64 pi, .int .u64 pc] 35) = W := ⟨_, rfl⟩
            have hBB : Below w3.heap.size w3 wB := by rw [← hwB]; exact HBj.out.alloc HBj.out.size _
            have hB8 : Below w8.heap.size w8 wB := by rw [← hwB]; exact HBi.out.alloc HBi.out.size _
            have k0 : wB.cell? ⟨wr.heap.size, 0, none⟩ = some (.int .i64 pi) := by rw [← hwB]; simp [go_sem]
            have k1 : wB.cell? ⟨wr.heap.size, 1, none⟩ = some (.int .u64 pc) := by rw [← hwB]; simp [go_sem]
            rw [hwB] at x0 x1 x2 x3 x4 x5 x6 x7
            rw [hwB]
            clear hwB q1 q2
            have c0' := cell_regrown x0
            have c1' := cell_regrown x1
            have c2' := cell_regrown x2
            have c3' := cell_regrown x3
            have c4' := cell_regrown x4
            have c5' := cell_regrown x5
            have c6' := cell_regrown x6
            have c7' := cell_regrown x7
            have k0' := cell_regrown k0
            have k1' := cell_regrown k1
            have hlk : ∀ (dq : Nat) (osq : Array Obj), (Instr.lookup 29 (.map (some b)) (.agg #[.int .i64 (-1), .int .i64 s, .int .i64 pi]) false).run Try.prog (grow (redrawn wB dq) osq) = .ok (.int .u64 pc) (grow (redrawn wB dq) osq) := fun dq osq => HLK.out _ (hBB.trans ((below_regrown wB dq osq).mono hBB.size)) (-1) s pi pc ⟨by decide, by decide⟩ HS.out ⟨w1', w2'⟩ HVAL.out.1
            have hcc : (pc != pc) = false := by simp
            have HPr := Lib.hid (fun (dq : Nat) (osq : Array Obj) => HP.out.below (HF.out _ (hBB.trans ((below_regrown wB dq osq).mono hBB.size))))
            have HQr := Lib.hid (fun (dq : Nat) (osq : Array Obj) => HQ.out.below (HF.out _ (hBB.trans ((below_regrown wB dq osq).mono hBB.size))))
            have HBB := Lib.hid (And.intro hBB hB8)
            clear hBB hB8
            refine wp_region_quiet_below (by kernel_rfl) (by kernel_rfl) ?_
            repeat (any_goals (first | go_big_quiet_step ((go_at_call 11; (with_reducible exact Calls.regrown_of (atN _ _ _ _ _ _ _ _ _ _ _ _ _ _ _ (HPr.out _ _) (HQr.out _ _) HA.out.1 HA.out.2 (by omega) (by omega) pc HVAL.out.2)))) | quiet_step ((go_at_call 11; (with_reducible exact Calls.regrown_of (atN _ _ _ _ _ _ _ _ _ _ _ _ _ _ _ (HPr.out _ _) (HQr.out _ _) HA.out.1 HA.out.2 (by omega) (by omega) pc HVAL.out.2))))))
            refine wpQuiet_nil ?_
            intro _ hw'
            obtain ⟨⟨dq, osq⟩, hw''⟩ := hw'
            subst hw''
            have HBG := Lib.hid (And.intro (HBB.out.1.trans ((below_regrown wB dq osq).mono HBB.out.1.size)) (HBB.out.2.trans ((below_regrown wB dq osq).mono HBB.out.2.size)))
            have y0 := k0' dq osq
            have y1 := k1' dq osq
            clear c0' c1' c2' c3' c4' c5' c6' c7' k0' k1' hlk HPr HQr x0 x1 x2 x3 x4 x5 x6 x7 k0 k1 HBB
            generalize grow (redrawn wB dq) osq = wG at *
            go_wp2_with fail
            go_roundw
            case rel => first | exact ⟨j + 1, by omega, by go_num, by go_num, by rw [← HMV.out]; simp [mF], HBG.out.2⟩ | ((repeat apply Exists.intro); exact ⟨⟨j + 1, by omega, by go_num, by go_num, by rw [← HMV.out]; simp [mF], HBG.out.2⟩, rfl⟩)
            case measure => simp [intOf]; omega
          · obtain rfl : j = Q.length := by omega
            have hji : ¬ ((Q.length : Int) < (Q.length : Int)) := by omega
            have HRx := Lib.hid (HR8.out.1.kept (below_grownBy HBi.out) (by simp) (by simp))
            have HLx := Lib.hid (left_neg (fun x hx => by simpa using HL.out.1 x hx) HL.out.2.1)
            go_wp2_with fail
            go_roundw
            case rel => first | exact ⟨_, cnt2, p, true, HRx.out, HLx.out.1, HLx.out.2, (fun h => by cases h), by rw [← HA1.out]; simp [aF]; try omega, by simp only [mF, List.take_length]; rw [← HN1.out]; simp [nF]; try omega, HBj.out⟩ | ((repeat apply Exists.intro); exact ⟨⟨_, cnt2, p, true, HRx.out, HLx.out.1, HLx.out.2, (fun h => by cases h), by rw [← HA1.out]; simp [aF]; try omega, by simp only [mF, List.take_length]; rw [← HN1.out]; simp [nF]; try omega, HBj.out⟩, rfl⟩)
            case measure => rw [HRx.out.left_eq, HR.out.left_eq]; exact HR8.out.2
end Go.Proofs.Ytjceickkbhhoaaa
