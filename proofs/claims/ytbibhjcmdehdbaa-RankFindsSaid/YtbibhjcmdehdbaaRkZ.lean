/- The law RankFinds: its walk. -/
import Derived.Test.YtbibhjcmdehdbaaRkU
import Derived.Test.YtbibhjcmdehdbaaRkT
import Derived.Deep.RegionWith
import Derived.Deep.CutRange
import Derived.Deep.QuietTactic
import Derived.BigQuiet
import Derived.Lib.QuietBelow
import Derived.Outline
namespace Go.Proofs.Ytbibhjcmdehdbaa
open Go.RowKit Go.Sort
set_option linter.unusedVariables false

/-- both orders lie there -/
def FiCut (w1 : World) (l : List Cel) (s5 s6 : Value) (wx : World) : Prop :=
  ∃ (A1 A2 : Option Addr) (c1 c2 : Nat), s5 = .slice A1 l.length c1 ∧ s6 = .slice A2 l.length c2 ∧ Cs wx A1 l ∧ Cs wx A2 l ∧ Below w1.heap.size w1 wx
theorem FiCut.of {w1 w2 w3 : World} {l : List Cel} {A1 A2 : Option Addr} {c1 c2 : Nat} (h2 : Below w1.heap.size w1 w2) (k2 : Cs w2 A1 l) (h3 : Below w2.heap.size w2 w3) (k3 : Cs w3 A2 l) : FiCut w1 l (.slice A1 l.length c1) (.slice A2 l.length c2) w3 :=
  ⟨A1, A2, c1, c2, rfl, rfl, k2.below h3, k3, h2.trans (h3.mono h2.size)⟩
theorem FiCut.drew {w1 w3 : World} {l : List Cel} {s5 s6 : Value} (h : FiCut w1 l s5 s6 w3) : FiCut w1 l s5 s6 w3.drew := by
  obtain ⟨A1, A2, c1, c2, e1, e2, k1, k2, h3⟩ := h
  exact ⟨A1, A2, c1, c2, e1, e2, k1, k2, Below.drew h3⟩
theorem Rb.set3 {W : World} {g : Nat} {t : TypeId} {a b c : Value} (h : Rb W g t #[a, b, c]) (v0 v1 v2 : Value) : Rb (((W.setCell ⟨g, 0, none⟩ v0).setCell ⟨g, 1, none⟩ v1).setCell ⟨g, 2, none⟩ v2) g t #[v0, v1, v2] := heap_set_at (heap_set_at (heap_set_at h _) _) _
theorem Rb.set4 {W : World} {g : Nat} {t : TypeId} {a b c d : Value} (h : Rb W g t #[a, b, c, d]) (v0 v1 v2 v3 : Value) : Rb ((((W.setCell ⟨g, 0, none⟩ v0).setCell ⟨g, 1, none⟩ v1).setCell ⟨g, 2, none⟩ v2).setCell ⟨g, 3, none⟩ v3) g t #[v0, v1, v2, v3] := heap_set_at (heap_set_at (heap_set_at (heap_set_at h _) _) _) _
def FiS (w : World) (hv : Array Value) (A1 A2 : Option Addr) (l : List Cel) (wr : World) : Prop :=
  Rb wr w.heap.size 25 hv ∧ Cs wr A1 l ∧ Cs wr A2 l ∧ Below w.heap.size w wr
theorem FiS.below {w : World} {hv : Array Value} {A1 A2 : Option Addr} {l : List Cel} {wr w2 : World} (h : FiS w hv A1 A2 l wr) (hb : Below wr.heap.size wr w2) : FiS w hv A1 A2 l w2 :=
  ⟨h.1.below hb, h.2.1.below hb, h.2.2.1.below hb, h.2.2.2.trans (hb.mono h.2.2.2.size)⟩
set_option maxHeartbeats 4000000 in
set_option maxRecDepth 100000 in
theorem rankFinds_walk (h : HV) (A B : Option Addr) (c d : Nat) (n pt o_ : Int) (w : World) (hP : Bk w A h.P) (hQ : Bk w B h.Q) (z0 : 0 ≤ h.zc) (z1 : h.zc ≤ 18446744073709551615) (hsm : inI64 h.sm) (n0 : 0 ≤ n) (n1 : n ≤ 18446744073709551615) (p0 : 0 ≤ pt) (p1 : pt ≤ 18446744073709551615) (o0 : 0 ≤ o_) (o1 : o_ ≤ 18446744073709551615) :
    Calls Try.prog 6 #[.agg #[.int .i64 h.k, .int .i64 h.s, .int .i64 h.z, .int .u64 h.zc, .int .u64 h.ct, .int .i64 h.sm, .slice A h.P.length c, .slice B h.Q.length d], .int .u64 n, .int .u64 pt, .int .u64 o_] w fun e w' => e = .returned (.bool true) ∧ Below w.heap.size w w' := by
  have hb0 : Below w.heap.size w (w.alloc (.cells #[.int .i64 h.k, .int .i64 h.s, .int .i64 h.z, .int .u64 h.zc, .int .u64 h.ct, .int .i64 h.sm, .slice A h.P.length c, .slice B h.Q.length d] 25)) := (Below.refl _ _).alloc (Nat.le_refl _) _
  have HB0 := Lib.hid hb0
  have HX0 := Lib.hid (Rb.new w w.heap.size rfl 25 #[.int .i64 h.k, .int .i64 h.s, .int .i64 h.z, .int .u64 h.zc, .int .u64 h.ct, .int .i64 h.sm, .slice A h.P.length c, .slice B h.Q.length d])
  have HK0 := Lib.hid (And.intro (hP.below hb0) (hQ.below hb0))
  have HW := Lib.hid (And.intro hP.2.1 hQ.2.1)
  have HK := Lib.hid (And.intro hP hQ)
  have HZ := Lib.hid (And.intro (And.intro z0 z1) hsm)
  clear hP hQ hb0 z0 z1 hsm
  go_enter Try.func6, Try.ntmps6
  go_upto_region 1 with fail
  generalize (w.alloc (.cells #[.int .i64 h.k, .int .i64 h.s, .int .i64 h.z, .int .u64 h.zc, .int .u64 h.ct, .int .i64 h.sm, .slice A h.P.length c, .slice B h.Q.length d] 25)) = w0 at *
  obtain ⟨x0, x1, x2, x3, x4, x5, x6, x7⟩ := HX0.out.eight
  have xl := HX0.out.lt
  go_wp2_with fail
  refine (right08 h A B c d w0 HK0.out.1 HK0.out.2 HZ.out.1.1 HZ.out.1.2).mono ?_
  rintro e w1 ⟨rfl, hb1⟩
  clear x0 x1 x2 x3 x4 x5 x6 x7 xl
  have HX1 := Lib.hid (HX0.out.below hb1)
  have HB1 := Lib.hid (HB0.out.trans (hb1.mono HB0.out.size))
  have HK1 := Lib.hid (And.intro (HK0.out.1.below hb1) (HK0.out.2.below hb1))
  clear HB0 HX0 HK0
  clear hb1
  rcases hf : fewK h with _ | _
  · clear hf
    go_wp2_with fail
    refine (awake08 w1).mono ?_
    rintro e wz ⟨rfl, hbz⟩
    have HBz := Lib.hid (HB1.out.trans (hbz.mono HB1.out.size))
    clear hbz
    go_wp2_with fail
    go_ret
    exact ⟨rfl, HBz.out⟩
  · have HO := Lib.hid (fewK_ok hf HZ.out.1.1 HZ.out.2 HW.out.1 HW.out.2)
    clear hf
    obtain ⟨x0, x1, x2, x3, x4, x5, x6, x7⟩ := HX1.out.eight
    have xl := HX1.out.lt
    obtain ⟨l, hl⟩ : ∃ l, ordF h = l := ⟨_, rfl⟩
    have HLE := Lib.hid hl
    have hll : (l.length : Int) ≤ 1025 := by have := ord_len HO.out; rw [hl] at this; omega
    clear hl
    have HCa := Lib.hid (fun (W : World) (hW : Below w1.heap.size w1 W) => (order_any h A B c d W (HK1.out.1.below hW) (HK1.out.2.below hW) HO.out).mono (fun e w' hr => show ∃ (A1 : Option Addr) (c1 : Nat), e = .returned (.slice A1 l.length c1) ∧ Cs w' A1 l ∧ Below w1.heap.size w1 w' from by obtain ⟨A1, c1, e1, e2, e3, _⟩ := hr; rw [HLE.out] at e1 e2; exact ⟨A1, c1, e1, e2, hW.trans (e3.mono hW.size)⟩))
    have HCb := Lib.hid (fun (W W0 : World) (hK : Bk W A h.P ∧ Bk W B h.Q) (hW : Below W0.heap.size W0 W) => (reford_any h A B c d W hK.1 hK.2 HO.out).mono (fun e w' hr => show ∃ (A1 : Option Addr) (c1 : Nat), e = .returned (.slice A1 l.length c1) ∧ Cs w' A1 l ∧ Below W0.heap.size W0 w' from by obtain ⟨A1, c1, e1, e2, e3, _⟩ := hr; rw [HLE.out] at e1 e2; exact ⟨A1, c1, e1, e2, hW.trans (e3.mono hW.size)⟩))
    have hq0 : Below w1.heap.size w1 w1 := Below.refl _ _
    have hq1 : Below w1.heap.size w1 w1.drew := Below.drew hq0
    have HQ := Lib.hid (And.intro hq0 hq1)
    clear hq0 hq1
    go_wp2_with fail
    go_cut [9, 10] from 21 to 24 (fun s9 s10 wx => FiCut w1 l s9 s10 wx)
    case first =>
      go_region_with (first
        | (go_at_call 26; (with_reducible refine (HCa.out _ ?q0).mono ?_); (case q0 => with_reducible first | exact HQ.out.1 | exact HQ.out.2); rintro e w2 ⟨A1, c1, rfl, hcs, hb2⟩; have HL2 := Lib.hid hcs; have HB2 := Lib.hid hb2; have HX2 := Lib.hid (HX1.out.below hb2); have HK2 := Lib.hid (And.intro (HK1.out.1.below hb2) (HK1.out.2.below hb2)); obtain ⟨k0, k1, k2, k3, k4, k5, k6, k7⟩ := HX2.out.eight; have lk := HX2.out.lt; clear hcs hb2)
        | (go_at_call 27; (with_reducible refine (HCb.out _ w2 ?q1 ?q0).mono ?_); (case q0 => with_reducible first | exact Below.refl _ _ | exact Below.drew (Below.refl _ _)); (case q1 => first | exact HK2.out); rintro e w3 ⟨A2, c2, rfl, hcs, hb3⟩; have HL3 := Lib.hid hcs; have HB3 := Lib.hid hb3; clear hcs hb3)
        | fail)
      all_goals (go_wp2_with fail)
      all_goals go_meet
      all_goals first
        | with_reducible exact FiCut.of HB2.out HL2.out HB3.out HL3.out
        | with_reducible exact (FiCut.of HB2.out HL2.out HB3.out HL3.out).drew
        | trace_state
    case rest =>
      obtain ⟨A1, A2, c1, c2, rfl, rfl, hA, hB, hb2⟩ := hcut
      obtain ⟨w2, hw2⟩ : ∃ W, W = wc := ⟨_, rfl⟩
      subst hw2
      clear x0 x1 x2 x3 x4 x5 x6 x7 xl
      have HX2 := Lib.hid (HX1.out.below hb2)
      have HB2 := Lib.hid (HB1.out.trans (hb2.mono HB1.out.size))
      have HK2 := Lib.hid (And.intro (HK1.out.1.below hb2) (HK1.out.2.below hb2))
      clear HB1 HX1 HK1
      have HLA := Lib.hid hA
      have HLB := Lib.hid hB
      have HL := Lib.hid (show (∀ p ∈ l, CelOk p ∧ 0 ≤ p.n) from by rw [← HLE.out]; exact ord_cel HO.out)
      have HSt := Lib.hid (show FiS w #[.int .i64 h.k, .int .i64 h.s, .int .i64 h.z, .int .u64 h.zc, .int .u64 h.ct, .int .i64 h.sm, .slice A h.P.length c, .slice B h.Q.length d] A1 A2 l w2 from ⟨HX2.out, hA, hB, HB2.out⟩)
      clear hA hB hb2 HCa HCb HQ HX2 HK2 HB2 HLA HLB
      go_wp2_with fail
      go_loopw [32] (fun i wr => ∃ k : Nat, k ≤ l.length ∧ i = .int .i64 k ∧ Hid (FiS w #[.int .i64 h.k, .int .i64 h.s, .int .i64 h.z, .int .u64 h.zc, .int .u64 h.ct, .int .i64 h.sm, .slice A h.P.length c, .slice B h.Q.length d] A1 A2 l wr)) (fun i _ => l.length - (intOf i).toNat)
      case atStart => exact ⟨0, by omega, rfl, HSt⟩
      case round =>
        obtain ⟨k, hk, rfl, HS⟩ := hrel
        by_cases hlt : k < l.length
        · have hki : (k : Int) < (l.length : Int) := by omega
          obtain ⟨p, hp⟩ := getElem?_lt hlt
          have HP := Lib.hid hp
          have hpn := (HL.out p (mem_of_at hp)).1.n
          have hpn0 := (HL.out p (mem_of_at hp)).2
          obtain ⟨ba, oa, rfl, hca⟩ := HS.out.2.1.some_ (by omega)
          obtain ⟨bb, ob, rfl, hcb⟩ := HS.out.2.2.1.some_ (by omega)
          obtain ⟨q0, q1, q2, q3⟩ := hca k p hp
          obtain ⟨t0, t1, t2, t3⟩ := hcb k p hp
          have hlb := block_lt_of_cell q0
          have hlb2 := block_lt_of_cell t0
          simp only at hlb hlb2
          clear hca hcb hp HSt
          go_upto_region 9 with fail
          have HLC := Lib.hid (fun (W : World) => lcell_any p.d p.s p.i p.n W)
          have q0' := cell_regrown q0
          have q1' := cell_regrown q1
          have q2' := cell_regrown q2
          have q3' := cell_regrown q3
          have t0' := cell_regrown t0
          have t1' := cell_regrown t1
          have t2' := cell_regrown t2
          have t3' := cell_regrown t3
          have heq := fun d os => eqR p.d p.s p.i p.n (grow (redrawn wr d) os)
          refine wp_region_quiet_below (by kernel_rfl) (by kernel_rfl) ?_
          repeat (any_goals (first | go_big_quiet_step (first | (go_at_call 28; (with_reducible exact Calls.regrown_of (HLC.out _)))) | quiet_step (first | (go_at_call 28; (with_reducible exact Calls.regrown_of (HLC.out _))))))
          refine wpQuiet_nil ?_
          intro _ hw'
          obtain ⟨⟨dq, osq⟩, hw2⟩ := hw'
          subst hw2
          have HS3 := Lib.hid (HS.out.below (below_regrown wr dq osq))
          clear q0 q1 q2 q3 t0 t1 t2 t3 q0' q1' q2' q3' t0' t1' t2' t3' heq hlb hlb2 HLC HS
          generalize grow (redrawn wr dq) osq = w3 at *
          go_wp2_with fail
          go_loopw [52] (fun i wr => ∃ j : Nat, j ≤ k ∧ i = .int .i64 j ∧ Hid (FiS w #[.int .i64 h.k, .int .i64 h.s, .int .i64 h.z, .int .u64 h.zc, .int .u64 h.ct, .int .i64 h.sm, .slice A h.P.length c, .slice B h.Q.length d] (some ⟨ba, oa, none⟩) (some ⟨bb, ob, none⟩) l wr)) (fun i _ => k - (intOf i).toNat)
          case atStart => exact ⟨0, by omega, rfl, HS3⟩
          case round =>
            obtain ⟨j, hj, rfl, HS4⟩ := hrel
            obtain ⟨wr_, hwr_⟩ : ∃ W, W = wr := ⟨_, rfl⟩
            subst hwr_
            by_cases hjl : j < k
            · have hji : (j : Int) < (k : Int) := by omega
              have hjn : (j : Int) < (l.length : Int) := by omega
              obtain ⟨q, hq⟩ := getElem?_lt (show j < l.length by omega)
              have HQ := Lib.hid hq
              have HCM := Lib.hid (ord_lt HO.out (by rw [HLE.out]; exact hq) (by rw [HLE.out]; exact HP.out) hjl)
              clear hq
              obtain ⟨_, _, hab, hca⟩ := HS4.out.2.1.some_ (by omega)
              injection hab with hab
              injection hab with hab1 hab2 hab3
              subst hab1 hab2
              obtain ⟨q0, q1, q2, q3⟩ := hca k p HP.out
              obtain ⟨t0, t1, t2, t3⟩ := hca j q HQ.out
              have hlb := block_lt_of_cell q0
              simp only at hlb
              clear hca
              go_upto_region 14 with fail
              have HC1 := Lib.hid (fun (W : World) => compare_any q p W)
              have HC2 := Lib.hid (fun (W : World) => compare_any p q W)
              have HC3 := Lib.hid (fun (W : World) => compare_any p p W)
              rw [HCM.out.1] at HC1
              rw [HCM.out.2] at HC2
              rw [cmpK_self] at HC3
              have q0' := cell_regrown q0
              have q1' := cell_regrown q1
              have q2' := cell_regrown q2
              have t0' := cell_regrown t0
              have t1' := cell_regrown t1
              have t2' := cell_regrown t2
              refine wp_region_quiet_below (by kernel_rfl) (by kernel_rfl) ?_
              repeat (any_goals (first | go_big_quiet_step (first | (go_at_call 29; (with_reducible exact Calls.regrown_of (HC1.out _))) | (go_at_call 29; (with_reducible exact Calls.regrown_of (HC2.out _))) | (go_at_call 29; (with_reducible exact Calls.regrown_of (HC3.out _)))) | quiet_step (first | (go_at_call 29; (with_reducible exact Calls.regrown_of (HC1.out _))) | (go_at_call 29; (with_reducible exact Calls.regrown_of (HC2.out _))) | (go_at_call 29; (with_reducible exact Calls.regrown_of (HC3.out _))))))
              refine wpQuiet_nil ?_
              intro _ hw'
              obtain ⟨⟨dq, osq⟩, hw2⟩ := hw'
              subst hw2
              have HS7 := Lib.hid (HS4.out.below (below_regrown wr_ dq osq))
              clear q0 q1 q2 q3 t0 t1 t2 t3 hlb q0' q1' q2' t0' t1' t2' HC1 HC2 HC3 HS4
              generalize grow (redrawn wr_ dq) osq = w7 at *
              go_wp2_with fail
              go_roundw
              case rel => exact ⟨j + 1, by omega, by go_num, HS7⟩
              case measure => simp [intOf]; omega
            · obtain rfl : j = k := by omega
              go_wp2_with fail
              go_roundw
              case rel => exact ⟨j + 1, by omega, by go_num, HS4⟩
              case measure => simp [intOf]; omega
        · obtain rfl : k = l.length := by omega
          obtain ⟨x0, x1, x2, x3, x4, x5, x6, x7⟩ := HS.out.1.eight
          have lx := HS.out.1.lt
          have HB3 := Lib.hid HS.out.2.2.2
          have HX3 := Lib.hid HS.out.1
          clear HSt hlt HS
          go_wp2_with fail
          refine (at_any h A B c d n _ (HK.out.1.below HB3.out) (HK.out.2.below HB3.out) HO.out n0 n1).mono ?_
          rintro e w4 ⟨rfl, hb4⟩
          clear x0 x1 x2 x3 x4 x5 x6 x7 lx
          have HX4 := Lib.hid (HX3.out.below hb4)
          have HB4 := Lib.hid (HB3.out.trans (hb4.mono HB3.out.size))
          clear HB3 HX3
          clear hb4
          obtain ⟨u, hu⟩ : ∃ q_, atC h n = q_ := ⟨_, rfl⟩
          obtain ⟨Eu, hEu⟩ : ∃ q_, atE h n = q_ := ⟨_, rfl⟩
          have HVu := Lib.hid (And.intro hu hEu)
          rw [hu, hEu]
          clear hu hEu
          obtain ⟨x0, x1, x2, x3, x4, x5, x6, x7⟩ := HX4.out.eight
          have xl := HX4.out.lt
          go_wp2_with fail
          clear x0 x1 x2 x3 x4 x5 x6 x7 xl
          have HGA := Lib.hid HX4.out.lt
          have hb5 : Below w4.heap.size w4 (w4.alloc (.cells #[.int .i64 u.d, .int .i64 u.s, .int .i64 u.i] 48)) := (Below.refl _ _).alloc (Nat.le_refl _) _
          obtain ⟨ga, hga⟩ : ∃ g, w4.heap.size = g := ⟨_, rfl⟩
          have HNa := Lib.hid (Rb.new w4 ga hga 48 #[.int .i64 u.d, .int .i64 u.s, .int .i64 u.i])
          have HX5 := Lib.hid (HX4.out.below hb5)
          have HB5 := Lib.hid (HB4.out.trans (hb5.mono HB4.out.size))
          clear HB4 HX4
          rw [hga] at HGA
          rw [hga]
          clear hb5 hga
          have Ha5 := HNa
          clear HNa
          generalize w4.alloc (.cells #[.int .i64 u.d, .int .i64 u.s, .int .i64 u.i] 48) = w5 at *
          refine (refat_any h A B c d n _ (HK.out.1.below HB5.out) (HK.out.2.below HB5.out) HO.out n0 n1).mono ?_
          rintro e w6 ⟨rfl, hb6⟩
          have HX6 := Lib.hid (HX5.out.below hb6)
          have Ha6 := Lib.hid (Ha5.out.below hb6)
          have HB6 := Lib.hid (HB5.out.trans (hb6.mono HB5.out.size))
          clear HB5 HX5 Ha5
          clear hb6
          rw [HVu.out.1, HVu.out.2]
          obtain ⟨x0, x1, x2, x3, x4, x5, x6, x7⟩ := HX6.out.eight
          have xl := HX6.out.lt
          obtain ⟨a0, a1, a2, _, _, _⟩ := Ha6.out.three
          have al := Ha6.out.lt
          go_wp2_with fail
          clear x0 x1 x2 x3 x4 x5 x6 x7 xl a0 a1 a2 al
          have HGB := Lib.hid Ha6.out.lt
          have hb7 : Below w6.heap.size w6 (w6.alloc (.cells #[.int .i64 u.d, .int .i64 u.s, .int .i64 u.i, .int .u64 u.n] 45)) := (Below.refl _ _).alloc (Nat.le_refl _) _
          obtain ⟨gb, hgb⟩ : ∃ g, w6.heap.size = g := ⟨_, rfl⟩
          have HNb := Lib.hid (Rb.new w6 gb hgb 45 #[.int .i64 u.d, .int .i64 u.s, .int .i64 u.i, .int .u64 u.n])
          have HX7 := Lib.hid (HX6.out.below hb7)
          have Ha7 := Lib.hid (Ha6.out.below hb7)
          have HB7 := Lib.hid (HB6.out.trans (hb7.mono HB6.out.size))
          clear HB6 HX6 Ha6
          rw [hgb] at HGB
          rw [hgb]
          clear hb7 hgb
          have Hb7 := HNb
          clear HNb
          generalize w6.alloc (.cells #[.int .i64 u.d, .int .i64 u.s, .int .i64 u.i, .int .u64 u.n] 45) = w7 at *
          have HNEa := Lib.hid (show w.heap.size ≠ ga ∧ w.heap.size ≤ ga ∧ gb ≠ ga from by have := HGA.out; have := HGB.out; omega)
          have HNEb := Lib.hid (show w.heap.size ≠ gb ∧ w.heap.size ≤ gb ∧ ga ≠ gb from by have := HGA.out; have := HGB.out; omega)
          clear HGA HGB
          have HLC := Lib.hid (fun (W : World) => lcell_any u.d u.s u.i u.n W)
          obtain ⟨a0, a1, a2, _, _, _⟩ := Ha7.out.three
          have al := Ha7.out.lt
          obtain ⟨b0, b1, b2, b3⟩ := Hb7.out.four
          have bl := Hb7.out.lt
          have a0' := cell_regrown a0
          have a1' := cell_regrown a1
          have a2' := cell_regrown a2
          have b0' := cell_regrown b0
          have b1' := cell_regrown b1
          have b2' := cell_regrown b2
          have b3' := cell_regrown b3
          have heq := fun d os => eqR u.d u.s u.i u.n (grow (redrawn w7 d) os)
          refine wp_region_quiet_below (by kernel_rfl) (by kernel_rfl) ?_
          repeat (any_goals (first | go_big_quiet_step (first | (go_at_call 28; (with_reducible exact Calls.regrown_of (HLC.out _)))) | quiet_step (first | (go_at_call 28; (with_reducible exact Calls.regrown_of (HLC.out _))))))
          refine wpQuiet_nil ?_
          intro _ hw'
          obtain ⟨⟨dq, osq⟩, hw2⟩ := hw'
          subst hw2
          have hb8 := below_regrown w7 dq osq
          clear a0' a1' a2' b0' b1' b2' b3' heq
          clear a0 a1 a2 al b0 b1 b2 b3 bl
          have HX8 := Lib.hid (HX7.out.below hb8)
          have Ha8 := Lib.hid (Ha7.out.below hb8)
          have Hb8 := Lib.hid (Hb7.out.below hb8)
          have HB8 := Lib.hid (HB7.out.trans (hb8.mono HB7.out.size))
          clear HB7 HX7 Ha7 Hb7
          clear hb8
          generalize grow (redrawn w7 dq) osq = w8 at *
          clear HLC
          obtain ⟨x0, x1, x2, x3, x4, x5, x6, x7⟩ := HX8.out.eight
          have xl := HX8.out.lt
          go_wp2_with fail
          refine (quant_any h A B c d pt o_ _ (HK.out.1.below HB8.out) (HK.out.2.below HB8.out) HO.out p0 p1 o0 o1).mono ?_
          rintro e w9 ⟨rfl, hb9⟩
          clear x0 x1 x2 x3 x4 x5 x6 x7 xl
          have HX9 := Lib.hid (HX8.out.below hb9)
          have Ha9 := Lib.hid (Ha8.out.below hb9)
          have Hb9 := Lib.hid (Hb8.out.below hb9)
          have HB9 := Lib.hid (HB8.out.trans (hb9.mono HB8.out.size))
          clear HB8 HX8 Ha8 Hb8
          clear hb9
          obtain ⟨v, hv⟩ : ∃ q_, quC h pt o_ = q_ := ⟨_, rfl⟩
          obtain ⟨Ev, hEv⟩ : ∃ q_, quE h pt o_ = q_ := ⟨_, rfl⟩
          have HVv := Lib.hid (And.intro hv hEv)
          rw [hv, hEv]
          clear hv hEv
          obtain ⟨a0, a1, a2, f0, f1, f2⟩ := Ha9.out.three
          have al := Ha9.out.lt
          go_upto_region 23 with fail
          have HX10 := Lib.hid (((HX9.out.off HNEa.out.1 0 (.int .i64 v.d)).off HNEa.out.1 1 (.int .i64 v.s)).off HNEa.out.1 2 (.int .i64 v.i))
          have HB10 := Lib.hid (((HB9.out.setCell (p := ⟨ga, 0, none⟩) HNEa.out.2.1 (.int .i64 v.d)).setCell (p := ⟨ga, 1, none⟩) HNEa.out.2.1 (.int .i64 v.s)).setCell (p := ⟨ga, 2, none⟩) HNEa.out.2.1 (.int .i64 v.i))
          have Hb10 := Lib.hid (((Hb9.out.off HNEa.out.2.2 0 (.int .i64 v.d)).off HNEa.out.2.2 1 (.int .i64 v.s)).off HNEa.out.2.2 2 (.int .i64 v.i))
          have Ha10 := Lib.hid (Ha9.out.set3 (.int .i64 v.d) (.int .i64 v.s) (.int .i64 v.i))
          clear HX9 HB9 Hb9 Ha9 a0 a1 a2 f0 f1 f2 al
          generalize (((w9.setCell ⟨ga, 0, none⟩ (.int .i64 v.d)).setCell ⟨ga, 1, none⟩ (.int .i64 v.s)).setCell ⟨ga, 2, none⟩ (.int .i64 v.i)) = w10 at *
          obtain ⟨x0, x1, x2, x3, x4, x5, x6, x7⟩ := HX10.out.eight
          have xl := HX10.out.lt
          go_wp2_with fail
          refine (refquant_any h A B c d pt o_ _ (HK.out.1.below HB10.out) (HK.out.2.below HB10.out) HO.out p0 p1 o0 o1).mono ?_
          rintro e w11 ⟨rfl, hb11⟩
          clear x0 x1 x2 x3 x4 x5 x6 x7 xl
          have HX11 := Lib.hid (HX10.out.below hb11)
          have Ha11 := Lib.hid (Ha10.out.below hb11)
          have Hb11 := Lib.hid (Hb10.out.below hb11)
          have HB11 := Lib.hid (HB10.out.trans (hb11.mono HB10.out.size))
          clear HB10 HX10 Ha10 Hb10
          clear hb11
          rw [HVv.out.1, HVv.out.2]
          obtain ⟨b0, b1, b2, b3, f0, f1, f2, f3⟩ := Hb11.out.fourF
          have bl := Hb11.out.lt
          go_upto_region 24 with fail
          have HX12 := Lib.hid ((((HX11.out.off HNEb.out.1 0 (.int .i64 v.d)).off HNEb.out.1 1 (.int .i64 v.s)).off HNEb.out.1 2 (.int .i64 v.i)).off HNEb.out.1 3 (.int .u64 v.n))
          have HB12 := Lib.hid ((((HB11.out.setCell (p := ⟨gb, 0, none⟩) HNEb.out.2.1 (.int .i64 v.d)).setCell (p := ⟨gb, 1, none⟩) HNEb.out.2.1 (.int .i64 v.s)).setCell (p := ⟨gb, 2, none⟩) HNEb.out.2.1 (.int .i64 v.i)).setCell (p := ⟨gb, 3, none⟩) HNEb.out.2.1 (.int .u64 v.n))
          have Ha12 := Lib.hid ((((Ha11.out.off HNEb.out.2.2 0 (.int .i64 v.d)).off HNEb.out.2.2 1 (.int .i64 v.s)).off HNEb.out.2.2 2 (.int .i64 v.i)).off HNEb.out.2.2 3 (.int .u64 v.n))
          have Hb12 := Lib.hid (Hb11.out.set4 (.int .i64 v.d) (.int .i64 v.s) (.int .i64 v.i) (.int .u64 v.n))
          clear HX11 HB11 Ha11 Hb11 b0 b1 b2 b3 f0 f1 f2 f3 bl
          generalize ((((w11.setCell ⟨gb, 0, none⟩ (.int .i64 v.d)).setCell ⟨gb, 1, none⟩ (.int .i64 v.s)).setCell ⟨gb, 2, none⟩ (.int .i64 v.i)).setCell ⟨gb, 3, none⟩ (.int .u64 v.n)) = w12 at *
          have HLC := Lib.hid (fun (W : World) => lcell_any v.d v.s v.i v.n W)
          have HAW := Lib.hid (fun (W : World) => awake08 W)
          obtain ⟨a0, a1, a2, _, _, _⟩ := Ha12.out.three
          have al := Ha12.out.lt
          obtain ⟨b0, b1, b2, b3⟩ := Hb12.out.four
          have bl := Hb12.out.lt
          have a0' := cell_regrown a0
          have a1' := cell_regrown a1
          have a2' := cell_regrown a2
          have b0' := cell_regrown b0
          have b1' := cell_regrown b1
          have b2' := cell_regrown b2
          have b3' := cell_regrown b3
          have heq := fun d os => eqR v.d v.s v.i v.n (grow (redrawn w12 d) os)
          refine wp_region_quiet_below (by kernel_rfl) (by kernel_rfl) ?_
          repeat (any_goals (first | go_big_quiet_step (first | (go_at_call 28; (with_reducible exact Calls.regrown_of (HLC.out _))) | (go_at_call 25; (with_reducible exact Calls.regrown_of (HAW.out _)))) | quiet_step (first | (go_at_call 28; (with_reducible exact Calls.regrown_of (HLC.out _))) | (go_at_call 25; (with_reducible exact Calls.regrown_of (HAW.out _))))))
          refine wpQuiet_nil ?_
          intro _ hw'
          obtain ⟨⟨dq, osq⟩, hw2⟩ := hw'
          subst hw2
          have hb13 := below_regrown w12 dq osq
          clear a0' a1' a2' b0' b1' b2' b3' heq
          clear a0 a1 a2 al b0 b1 b2 b3 bl
          have HX13 := Lib.hid (HX12.out.below hb13)
          have Ha13 := Lib.hid (Ha12.out.below hb13)
          have Hb13 := Lib.hid (Hb12.out.below hb13)
          have HB13 := Lib.hid (HB12.out.trans (hb13.mono HB12.out.size))
          clear HB12 HX12 Ha12 Hb12
          clear hb13
          generalize grow (redrawn w12 dq) osq = w13 at *
          have HBz := Lib.hid HB13.out
          go_wp2_with fail
          go_ret
          exact ⟨rfl, HBz.out⟩
end Go.Proofs.Ytbibhjcmdehdbaa
