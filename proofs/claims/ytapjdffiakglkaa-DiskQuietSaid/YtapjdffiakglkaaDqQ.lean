/- DiskQuiet, walked. -/
import Derived.Test.YtapjdffiakglkaaDqC
namespace Go.Proofs.Ytapjdffiakglkaa.Dk
open Go.RowKit Go.Maps Go.Sort Go.Proofs
set_option linter.unusedVariables false

/-- so many steps are done -/
def Q1 (w : World) (base d n : Nat) (v51 : Value) (wr : World) : Prop := ∃ (k : Nat) (O : Nat → Prop) (M : Nat) (S : PD), v51 = .int .i64 (k : Int) ∧ k ≤ n ∧ DK O wr d M S ∧ (∀ x, O x → base ≤ x) ∧ I64 S.fuse ∧ S.room = 5000 ∧ M ≤ 102 * k ∧ Below base w wr
/-- so many names are written to and made sure -/
def Q3 (T1 : PD) (w10 : World) (base n5 da M1 n1 : Nat) (v125 : Value) (wr : World) : Prop := ∃ (k : Nat) (O : Nat → Prop) (M : Nat) (T : PD), v125 = .int .i64 (k : Int) ∧ k ≤ n1 ∧ DK O wr da M T ∧ AllK T1 T ∧ (∀ x, O x → base ≤ x ∧ (x < n5 ∨ w10.heap.size ≤ x)) ∧ M ≤ M1 + 3 * k ∧ Fr (fun x => base ≤ x ∧ (x < n5 ∨ w10.heap.size ≤ x)) w10 wr
def NewV (B2 : Nat) (v : Value) (w : World) : Prop := ∃ (q : Nat) (Sq : RS) (Oq : Nat → Prop), v = .pointer (some ⟨q, 0, none⟩) ∧ RD Oq w q 0 Sq ∧ ∀ x, Oq x → B2 ≤ x
theorem NewV.below {B2 : Nat} {v : Value} {w w' : World} (h : NewV B2 v w) (hb : Below w.heap.size w w') : NewV B2 v w' := by
  obtain ⟨q, Sq, Oq, h1, h2, h3⟩ := h
  exact ⟨q, Sq, Oq, h1, h2.below hb, h3⟩
set_option maxHeartbeats 4000000 in
set_option maxRecDepth 100000 in
theorem quiet_main (Ao : Option Addr) (co : Nat) (l : List OpD) (Bk : Option Addr) (mk ck : Nat) (ks : List Bool) (Bu : Option Addr) (mu cu : Nat) (us : List Nat) (w : World) (hO : Opq w Ao l) (hk : Tk.Cl w Bk (ks.map Value.bool)) (hmk : mk = ks.length)
    (hu : Tk.Cl w Bu (us.map fun u : Nat => Value.int .u16 (u : Int))) (hmu : mu = us.length) (hu16 : ∀ u ∈ us, u < 65536) (hul : us.length ≤ 70368744177664) :
    Calls Try.prog 5 #[.slice Ao l.length co, .slice Bk mk ck, .slice Bu mu cu] w fun e w' => e = .returned (.bool true) ∧ Below w.heap.size w w' := by
  obtain ⟨n, hn⟩ : ∃ n, l.length = n := ⟨_, rfl⟩
  obtain ⟨base, hbase⟩ : ∃ base, w.heap.size = base := ⟨_, rfl⟩
  have HO := Lib.hid hO
  have HKU := Lib.hid (And.intro hk (And.intro hmk (And.intro hu (And.intro hmu (And.intro hu16 hul)))))
  have HN := Lib.hid hn
  have HN0 := Lib.hid (new_any 5000 w (by omega) (by omega))
  rw [hbase] at HN0 ⊢
  rw [hn]
  clear hO hk hmk hu hmu hu16 hul hn
  go_enter Try.func5, Try.ntmps5
  go_wp2_with fail
  refine HN0.out.mono ?_
  rintro e w1 ⟨rfl, hd1, hb1, hz1⟩
  have HW1 := Lib.hid (And.intro hd1 (And.intro hb1 hz1))
  have HBS := Lib.hid hbase
  clear hd1 hb1 hz1 HN0 hbase
  by_cases h100 : 100 < n
  · have hd100 : (100 : Int) < (n : Int) := by omega
    have HA := Lib.hid (awake13 w1)
    clear h100
    go_wp2_with fail
    refine HA.out.mono ?_
    rintro e w2 ⟨rfl, hb2⟩
    have HB2 := Lib.hid (show Below base w w2 from HW1.out.2.1.trans (hb2.mono (by have := HW1.out.2.2; omega)))
    clear hb2
    go_wp2_with fail
    go_ret
    exact ⟨rfl, HB2.out⟩
  · have hd100 : ¬ (100 : Int) < (n : Int) := by omega
    have hn100 : (n : Int) ≤ 100 := by omega
    have S0 := Lib.hid (show Q1 w base base n (.int .i64 0) w1 from ⟨0, _, 0, newS 5000, rfl, Nat.zero_le _, HW1.out.1, (fun x hx => Nat.le_of_eq (Eq.symm hx)), i64_m1, rfl, Nat.zero_le _, HW1.out.2.1⟩)
    have HZ1 := Lib.hid (show base ≤ w1.heap.size by have := HW1.out.2.2; omega)
    clear h100 HW1
    go_wp2_with fail
    go_loopw [6, 10, 51] (fun _ _ v51 wr => Hid (Q1 w base base n v51 wr)) (fun _ _ v51 _ => n - (intOf v51).toNat)
    case atStart => exact S0
    case round =>
      clear S0
      obtain ⟨k, O, M, S, rfl, hk, hdk, hOb, hfu, hro, hM, hbl⟩ := hrel.out
      clear hrel
      by_cases hlt : k < n
      · have hki : (k : Int) < (n : Int) := by omega
        obtain ⟨p, hp⟩ : ∃ p, l[k]? = some p := ⟨_, List.getElem?_eq_getElem (by have := HN.out; omega)⟩
        obtain ⟨hpb, hpc⟩ := HO.out
        obtain ⟨pA, pB, pn⟩ := hpb p (List.mem_of_getElem? hp)
        rcases hpc with hnil | ⟨b, off, rfl, hc⟩
        · rw [hnil] at hp; cases hp
        have hcw : ∀ j v, (opV p)[j]? = some v → wr.cell? ⟨b, off + k * 6 + j, none⟩ = some v := fun j v hj => by
          have hcl := hc k p hp j v hj
          have hlt := block_lt_of_cell hcl
          have e := HBS.out
          rw [hbl.cell (p := ⟨b, off + k * 6 + j, none⟩) (by rw [← e]; exact hlt)]
          exact hcl
        have q0 : wr.cell? ⟨b, off + k * 6, none⟩ = some (.int .i64 p.kd) := hcw 0 _ rfl
        have q1 := hcw 1 _ rfl
        have q2 := hcw 2 _ rfl
        have q3 := hcw 3 _ rfl
        have q4 := hcw 4 _ rfl
        have q5 := hcw 5 _ rfl
        have HP := Lib.hid (And.intro pA (And.intro pB pn))
        have HR := Lib.hid (And.intro hdk (And.intro hOb (And.intro hfu (And.intro hro (And.intro hM hbl)))))
        have HLT := Lib.hid hlt
        clear hpb hc hcw hp pA pB pn hdk hOb hfu hro hM hbl
        by_cases hB : 100 < p.B.size
        · have hBd : (100 : Int) < (p.B.size : Int) := by omega
          clear hB
          go_wp2_with fail
          refine (awake13 _).mono ?_
          rintro e w2 ⟨rfl, hb2⟩
          have HB2 := Lib.hid (show Below base w w2 from by
            have h1 := HR.out.2.2.2.2.2
            have h2 := h1.size
            have h3 := HBS.out
            have h4 := grows wr (.cells #[.int .i64 p.kd, .string p.A, .string p.B, .int .i64 p.nn, .slice p.Kb p.kn p.kc, .slice p.Cb p.cn p.cc] 38)
            have h5 := h4.size
            exact (h1.trans (h4.mono (by omega))).trans (hb2.mono (by omega)))
          clear hb2
          go_wp2_with fail
          go_ret
          exact ⟨rfl, HB2.out⟩
        · have hBd : ¬ (100 : Int) < (p.B.size : Int) := by omega
          have HBL := Lib.hid (show p.B.size ≤ 100 by omega)
          clear hB
          go_wp2_with fail
          obtain ⟨W2, hW2⟩ : ∃ W2, wr.alloc (.cells #[.int .i64 p.kd, .string p.A, .string p.B, .int .i64 p.nn, .slice p.Kb p.kn p.kc, .slice p.Cb p.cn p.cc] 38 (0, 0)) = W2 := ⟨_, rfl⟩
          rw [hW2]
          obtain ⟨g10, hg10⟩ : ∃ g10, wr.heap.size = g10 := ⟨_, rfl⟩
          have hgb : Below wr.heap.size wr W2 := hW2 ▸ grows wr _
          have hbx : W2.heap[g10]? = some (.cells #[.int .i64 p.kd, .string p.A, .string p.B, .int .i64 p.nn, .slice p.Kb p.kn p.kc, .slice p.Cb p.cn p.cc] 38 (0, 0)) := hg10 ▸ hW2 ▸ heap_alloc_new wr _
          rw [hg10]
          have x0 : W2.cell? ⟨g10, 0, none⟩ = some (.int .i64 p.kd) := by rw [cell_of_row _ _ _ _ _ _ hbx]; rfl
          have x1 : W2.cell? ⟨g10, 1, none⟩ = some (.string p.A) := by rw [cell_of_row _ _ _ _ _ _ hbx]; rfl
          have x2 : W2.cell? ⟨g10, 2, none⟩ = some (.string p.B) := by rw [cell_of_row _ _ _ _ _ _ hbx]; rfl
          have x3 : W2.cell? ⟨g10, 3, none⟩ = some (.int .i64 p.nn) := by rw [cell_of_row _ _ _ _ _ _ hbx]; rfl
          have x4 : W2.cell? ⟨g10, 4, none⟩ = some (.slice p.Kb p.kn p.kc) := by rw [cell_of_row _ _ _ _ _ _ hbx]; rfl
          have x5 : W2.cell? ⟨g10, 5, none⟩ = some (.slice p.Cb p.cn p.cc) := by rw [cell_of_row _ _ _ _ _ _ hbx]; rfl
          have HG2 := Lib.hid hgb
          clear hgb hbx hW2 hg10 q0 q1 q2 q3 q4 q5
          refine Rg.wp_region_invG (R := fun sl v w => match sl with
              | 60 => v = .pointer (some ⟨base, 0, none⟩)
              | 61 => NewV W2.heap.size v w
              | 62 => v = .agg #[.int .i64 p.kd, .string p.A, .string p.B, .int .i64 p.nn, .slice p.Kb p.kn p.kc, .slice p.Cb p.cn p.cc]
              | _ => True) (fun a w => True) 3 [60, 61, 62] 173 [false, false, false, false, false, false, false, false, false, false, false, false, false, false, false, false, false, false, false, false, false, false, false, false, false, false, false, false, false, false, false, false, false, false, false, false, false, false, false, false, false, false, false, false, false, false, false, false, false, false, false, false, false, false, false, false, false, false, false, false, true, true, true, false, false, false, false, false, false, false, false, false, false, false, false, false, false, false, false, false, false, false, false, false, false, false, false, false, false, false, false, false, false, false, false, false, false, false, false, false, false, false, false, false, false, false, false, false, false, false, false, false, false, false, false, false, false, false, false, false, false, false, false, false, false, false, false, false, false, false, false, false, false, false, false, false, false, false, false, false, false, false, false, false, false, false, false, false, false, false, false, false, false, false, false, false, false, false, false, false, false, false, false, false, false, false, false, false, false, false, false, false, false] (by kernel_rfl) rfl (by kernel_rfl) (by kernel_rfl) (by kernel_rfl) (by kernel_rfl) (Nat.le_of_ble_eq_true (by kernel_rfl)) (by kernel_rfl) (by kernel_rfl) ?mono ?g0 ?good ?done
          case mono =>
            refine List.forall_mem_cons.2 ⟨fun _ _ _ _ _ h => h, ?_⟩
            refine List.forall_mem_cons.2 ⟨fun _ _ _ _ hb h => NewV.below h hb, ?_⟩
            refine List.forall_mem_cons.2 ⟨fun _ _ _ _ _ h => h, ?_⟩
            exact fun _ h => absurd h (by simp)
          case g0 => exact trivial
          case good =>
            refine Rg.goodG_cons ?_ ?_
            · intro ac w' cx hg hn
              have e7 := cx.at_ 7 (by kernel_rfl) rfl
              refine .inl ⟨(Rg.wanted_none rfl), fun K hK => ?_⟩
              go_simp
              exact hK _ _ (Below.refl _ _) (fun t ht => by injection ht with ht; subst ht; exact rfl) trivial
            refine Rg.goodG_cons ?_ ?_
            · intro ac w' cx hg hn
              refine .inl ⟨(Rg.wanted_none rfl), fun K hK => ?_⟩
              go_simp
              refine (rnew_any 1 w').mono ?_
              rintro y w5 ⟨q, Sq, rfl, hrd, hb5⟩
              exact hK _ _ hb5 (fun t ht => by injection ht with ht; subst ht; exact ⟨q, Sq, _, rfl, hrd, fun x hx => Nat.le_trans cx.bel.size hx.1⟩) trivial
            refine Rg.goodG_cons ?_ ?_
            · intro ac w' cx hg hn
              have e10 := cx.at_ 10 (by kernel_rfl) rfl
              have y0 := cb x0 cx.bel; have y1 := cb x1 cx.bel; have y2 := cb x2 cx.bel; have y3 := cb x3 cx.bel; have y4 := cb x4 cx.bel; have y5 := cb x5 cx.bel
              refine .inl ⟨(Rg.wanted_none rfl), fun K hK => ?_⟩
              go_simp
              exact hK _ _ (Below.refl _ _) (fun t ht => by injection ht with ht; subst ht; exact rfl) trivial
            exact Rg.goodG_nil
          case done =>
            intro u w3 hb3 hr _
            obtain ⟨q, Sq, Oq, e61, hrd, hoq⟩ : NewV W2.heap.size (u 61) w3 := hr 61 (by simp)
            have e60 : u 60 = .pointer (some ⟨base, 0, none⟩) := hr 60 (by simp)
            have e62 : u 62 = .agg #[.int .i64 p.kd, .string p.A, .string p.B, .int .i64 p.nn, .slice p.Kb p.kn p.kc, .slice p.Cb p.cn p.cc] := hr 62 (by simp)
            simp only [Rg.fillL_cons, Rg.fillL_nil, if_true, if_false, Bool.false_eq_true, e60, e61, e62]
            change wpList _ _ _ [_] _ _
            obtain ⟨hdk, hOb, hfu, hro, hM, hbl⟩ := HR.out
            have hw3 : Below wr.heap.size wr w3 := HG2.out.trans (hb3.mono HG2.out.size)
            have hkn := HLT.out
            have HD := Lib.hid (do_any O Oq base q M 0 S Sq p.kd p.nn p.A p.B p.Kb p.kn p.kc p.Cb p.cn p.cc w3 (hdk.below hw3) hrd (fun x hx hq => by have := hdk.bound x hx; have := hoq x hq; have := HG2.out.size; omega) HP.out.1 (by have := HBL.out; omega) hfu (by rw [hro]; omega) (by omega) (by omega))
            have HW3 := Lib.hid (And.intro (show Below base w w3 from hbl.trans (hw3.mono (by have := hbl.size; have := HBS.out; omega))) (And.intro hoq (show base ≤ W2.heap.size by have := hbl.size; have := HBS.out; have := HG2.out.size; omega)))
            clear hr hb3 e60 e61 e62 hrd hoq hdk hOb hfu hro hM hbl hw3 hkn x0 x1 x2 x3 x4 x5
            go_wp2_with fail
            refine HD.out.mono ?_
            rintro e w4 ⟨C, z, S', Od', Oq', Sq', rfl, ha, hdk4, _, hfr, hds⟩
            obtain ⟨hdk, hOb, hfu, hro, hM, hbl⟩ := HR.out
            obtain ⟨hr1, hr2⟩ := hds.keep hfu HP.out.2.2
            have HX := Lib.hid (show Q1 w base base n (.int .i64 ((k : Int) + 1)) w4 from ⟨k + 1, Od', _, S', by go_num, by have := HLT.out; omega, hdk4, fun x hx => (ha.2.1 x hx).elim (hOb x) (fun h => Nat.le_trans (by have := HW3.out.1.size; have := HBS.out; omega) h), hr2, hr1.trans hro, by have := HBL.out; omega, hfr.below HW3.out.1 (by have := HW3.out.1.size; have := HBS.out; omega) (fun x hx => hx.elim (hOb x) (fun h => Nat.le_trans HW3.out.2.2 (HW3.out.2.1 x h)))⟩)
            clear ha hdk4 hfr hds hdk hOb hfu hro hM hbl hr1 hr2
            go_wp2_with fail
            refine ⟨HX, ?_⟩
            simp [intOf]
            have := HLT.out
            omega
      · have hkn : k = n := by omega
        subst hkn
        have hki : ¬ (k : Int) < (k : Int) := by omega
        obtain ⟨hk1, hmk, hu1, hmu, hu16, hul⟩ := HKU.out
        have hbw : Below w.heap.size w wr := by rw [HBS.out]; exact hbl
        have HC1 := Lib.hid (crash_any O base M S wr hdk (by omega) Bk mk ck ks (hk1.below hbw) hmk Bu mu cu us (hu1.below hbw) hmu hu16)
        have H1 := Lib.hid (And.intro hdk (And.intro (show M ≤ 10200 by omega) hbl))
        clear hk1 hmk hu1 hmu hu16 hul hbw hdk hOb hfu hM hbl
        go_wp2_with fail
        refine HC1.out.mono ?_
        rintro e w2 ⟨da, s1, s2, l1, T1, hl, hn1, hn2, hl1, hl2, rfl, _, hci, hst, hdT, hb2⟩
        have hM1 : M + l1.length ≤ 30600 := by
          have h3 := Lib.compact_length_le (srt (srt s1 ++ s2))
          rw [← hl] at h3
          simp only [srt, List.length_mergeSort, List.length_append] at h3
          have := H1.out.2.1
          omega
        obtain ⟨M1, hM1e⟩ : ∃ M1, M + l1.length = M1 := ⟨_, rfl⟩
        rw [hM1e] at hM1 hdT
        have HR5 := Lib.hid (show S.room = 5000 from hro)
        have HT1 := Lib.hid (And.intro (hci.all_sure hst H1.out.1.le_all) (And.intro hci.down (And.intro hci.steps (And.intro hci.room hci.fuse))))
        have HD2 := Lib.hid (And.intro hdT hM1)
        have hb02 : Below base w w2 := H1.out.2.2.trans (hb2.mono (by have := H1.out.2.2.size; have := HBS.out; omega))
        have HB2 := Lib.hid hb02
        have HCK := Lib.hid (show Calls Try.prog 23 #[.slice Bu mu cu] w2 (CkP w2 mu) from by
          obtain ⟨_, _, hu1, hmu, hu16, hul⟩ := HKU.out
          exact cutKeep_any Bu mu cu us w2 (hu1.below (by rw [HBS.out]; exact HB2.out)) hmu hu16 hul)
        clear hro hl hn1 hn2 hl1 hl2 hci hst hdT hb2 hM1 hM1e hb02 HC1
        go_wp2_with fail
        refine HCK.out.mono ?_
        rintro e w3 ⟨A3, c3, ks3, hk3, rfl, hcl3, hb3⟩
        have hx4 := heap_alloc_new w3 (.cells #[.int .u16 9, .int .u16 9, .int .u16 9] 52 (0, 0))
        have hg4 := grows w3 (.cells #[.int .u16 9, .int .u16 9, .int .u16 9] 52 (0, 0))
        have hb24 := hb3.trans (hg4.mono hb3.size)
        have HC2 := Lib.hid (crash_any _ da M1 T1 _ (HD2.out.1.below hb24) (by have := HD2.out.2; omega) A3 mu c3 ks3 (hcl3.below hg4) hk3.symm (some ⟨w3.heap.size, 0, none⟩) 3 3 [9, 9, 9] (.inr ⟨w3.heap.size, 0, rfl, fun j v hj => by
          rw [cell_of_row _ _ _ _ _ _ hx4]
          match j, hj with
          | 0, hj => exact hj
          | 1, hj => exact hj
          | 2, hj => exact hj⟩) rfl (by simp))
        have HB24 := Lib.hid hb24
        clear hk3 hcl3 hb3 hx4 hg4 hb24 HCK
        go_wp2_with fail
        refine HC2.out.mono ?_
        rintro e w5 ⟨db, s1, s2, l2, T2, hl, hn1, hn2, hl1, hl2, rfl, _, hci, hst, hdT, hb5⟩
        have hb25 : Below w2.heap.size w2 w5 := HB24.out.trans (hb5.mono HB24.out.size)
        have hM2 : M1 + l2.length ≤ 91800 := by
          have h3 := Lib.compact_length_le (srt (srt s1 ++ s2))
          rw [← hl] at h3
          simp only [srt, List.length_mergeSort, List.length_append] at h3
          have := HD2.out.2
          omega
        obtain ⟨M2, hM2e⟩ : ∃ M2, M1 + l2.length = M2 := ⟨_, rfl⟩
        rw [hM2e] at hM2 hdT
        have HAC := Lib.hid (HT1.out.1.crash hn1 hl hci)
        have HT2 := Lib.hid (And.intro hci.down (And.intro hdT hM2))
        have HB25 := Lib.hid hb25
        have HOA := Lib.hid (show ∀ x, (wr.heap.size ≤ x ∧ x < w2.heap.size) → base ≤ x ∧ x < w5.heap.size from fun x hx => ⟨by have := H1.out.2.2.size; have := HBS.out; omega, by have := hb25.size; omega⟩)
        have HNA := Lib.hid (names_any _ da M1 T1 w5 (HD2.out.1.below hb25) HT1.out.2.1 (by have := HD2.out.2; omega))
        clear hl hn1 hn2 hl1 hl2 hci hst hdT hb5 hb25 hM2 hM2e HC2
        go_wp2_with fail
        refine HNA.out.mono ?_
        rintro e w6 ⟨A6, c6, ss1, rfl, hns1, hls1, hA6, hb6⟩
        obtain ⟨n1, hn1⟩ : ∃ n1, ss1.length = n1 := ⟨_, rfl⟩
        have HNS := Lib.hid (And.intro hns1 (And.intro hn1 (And.intro hA6 hb6)))
        rw [hn1] at hls1
        have HLS := Lib.hid hls1
        have HNB := Lib.hid (names_any _ db M2 T2 w6 (HT2.out.2.1.below hb6) HT2.out.1 (by have := HT2.out.2.2; omega))
        have hn1i : (n1 : Int) ≤ 100000 := by have := HD2.out.2; omega
        rw [hn1]
        clear hns1 hls1 hA6 hb6 hn1 HNA
        go_wp2_with fail
        refine HNB.out.mono ?_
        rintro e w7 ⟨A7, c7, ss2, rfl, hns2, hls2, hA7, hb7⟩
        have hlen : ss2.length = n1 := by rw [← HNS.out.2.1]; exact ns_length hns2 HNS.out.1 (fun s => (HAC.out s).1)
        rw [hlen]
        have hb27 : Below w2.heap.size w2 w7 := (HB25.out.trans (HNS.out.2.2.2.mono HB25.out.size)).trans (hb7.mono (Nat.le_trans HB25.out.size HNS.out.2.2.2.size))
        have HB27 := Lib.hid hb27
        have HDN := Lib.hid (down_any _ da M1 T1 w7 (HD2.out.1.below hb27))
        have HST := Lib.hid (steps_any _ da M1 T1 w7 (HD2.out.1.below hb27))
        have HB7 := Lib.hid hb7
        rw [HT1.out.2.1] at HDN
        rw [HT1.out.2.2.1] at HST
        clear hns2 hls2 hA7 hb7 hb27 hlen HNB
        go_wp2_with fail
        refine HDN.out.mono ?_
        rintro e w8 ⟨rfl, rfl⟩
        go_wp2_with fail
        refine HST.out.mono ?_
        rintro e w9 ⟨rfl, rfl⟩
        have S0 := Lib.hid (show ∃ k : Nat, (Value.int .i64 0) = .int .i64 (k : Int) ∧ k ≤ n1 ∧ Below w9.heap.size w9 w9 from ⟨0, rfl, Nat.zero_le _, Below.refl _ _⟩)
        clear HDN HST
        go_wp2_with fail
        go_loopw [6, 15, 16, 17, 18, 19, 93] (fun _ _ _ _ _ _ v93 wr => Hid (∃ k : Nat, v93 = .int .i64 (k : Int) ∧ k ≤ n1 ∧ Below w9.heap.size w9 wr)) (fun _ _ _ _ _ _ v93 _ => n1 - (intOf v93).toNat)
        case atStart => exact S0
        case round =>
          clear S0
          obtain ⟨k2, rfl, hk2, hb9⟩ := hrel.out
          clear hrel
          by_cases hlt2 : k2 < n1
          · have hki2 : (k2 : Int) < (n1 : Int) := by omega
            obtain ⟨x, hx⟩ : ∃ x, ss1[k2]? = some x := ⟨_, List.getElem?_eq_getElem (by rw [HNS.out.2.1]; exact hlt2)⟩
            obtain ⟨b, rfl, _, hcell⟩ := HNS.out.2.2.1 k2 x hx
            obtain ⟨s, hs, hsx⟩ : ∃ s : ByteArray, encStr x = .string s ∧ s.data.toList = x := ⟨_, rfl, by simp⟩
            rw [hs] at hcell
            have hb6r := HB7.out.trans (hb9.mono HB7.out.size)
            have hcx : wr.cell? ⟨b, k2, none⟩ = some (.string s) := cb hcell hb6r
            have hb2r := HB27.out.trans (hb9.mono HB27.out.size)
            have hb5r := HNS.out.2.2.2.trans (hb6r.mono HNS.out.2.2.2.size)
            have hda := HD2.out.1.below hb2r
            have hdb := HT2.out.2.1.below hb5r
            have hxn : T1.now s.data.toList ≠ 0 := by rw [hsx]; exact (HNS.out.1.2 x).1 (List.mem_of_getElem? hx)
            have hks : Ks s := by have := hda.now.kb hxn; show s.size ≤ maxLen; simpa using this
            obtain ⟨hx2, hbs⟩ := HAC.out s.data.toList
            have hxn2 := hx2.2 hxn
            obtain ⟨bs, hbse⟩ : ∃ bs, (T1.F (T1.now s.data.toList)).bs = bs := ⟨_, rfl⟩
            have hbs2 := hbs hxn
            rw [hbse] at hbs2
            have HRA := Lib.hid (show Calls Try.prog 15 #[.pointer (some ⟨da, 0, none⟩), .string s] wr (ReadQ wr 0 bs) from by
              have hr := read_any _ da M1 T1 s wr hda hks (by have := HD2.out.2; omega)
              unfold ReadP readC at hr
              rw [HT1.out.2.1, if_neg (by simp), if_neg hxn, hbse] at hr
              exact hr)
            have HRB := Lib.hid (show ∀ W, Below wr.heap.size wr W → Calls Try.prog 15 #[.pointer (some ⟨db, 0, none⟩), .string s] W (ReadQ W 0 bs) from fun W hW => by
              have hr := read_any _ db M2 T2 s W (hdb.below (hW.mono (by have := hb5r.size; omega) |> fun h => ⟨h.os, h.tape, h.output, h.size, fun k hk => hW.block k hk⟩)) hks (by have := HT2.out.2.2; omega)
              unfold ReadP readC at hr
              rw [HT2.out.1, if_neg (by simp), if_neg hxn2, hbs2] at hr
              exact hr)
            have HLT2 := Lib.hid hlt2
            have HB9 := Lib.hid hb9
            clear hx hs hsx hcell hb6r hb2r hb5r hda hdb hxn hks hx2 hbs hxn2 hbse hbs2 hlt2 hb9
            go_wp2_with fail
            refine HRA.out.mono ?_
            rintro e wa ⟨Aa, na, ca, rfl, hba, hra⟩
            obtain ⟨hna, hsa⟩ := hra rfl
            have HRA2 := Lib.hid (And.intro hna (And.intro hsa hba))
            have HRB2 := Lib.hid (HRB.out wa hba)
            clear hna hsa hba hra HRA HRB
            go_wp2_with fail
            refine HRB2.out.mono ?_
            rintro e wb ⟨Ab, nb, cb2, rfl, hbb, hrb⟩
            obtain ⟨hnb, hsb⟩ := hrb rfl
            have cva := sl_text (HRA2.out.2.1.kept (Tk.Kept.of_below hbb)) HRA2.out.1
            have cvb := sl_text hsb hnb
            obtain ⟨tb, htb⟩ : ∃ tb, txt bs = tb := ⟨_, rfl⟩
            rw [htb] at cva cvb
            have hss : (tb.toList == tb.toList) = true := by simp
            have HB10 := Lib.hid (show Below w9.heap.size w9 wb from (HB9.out.trans (HRA2.out.2.2.mono HB9.out.size)).trans (hbb.mono (Nat.le_trans HB9.out.size HRA2.out.2.2.size)))
            clear hbb hrb hnb hsb htb HRB2
            go_wp2_with fail
            refine ⟨Lib.hid ⟨k2 + 1, by go_num, by have := HLT2.out; omega, HB10.out⟩, ?_⟩
            simp [intOf]
            have := HLT2.out
            omega
          · have hkn2 : k2 = n1 := by omega
            subst hkn2
            have hki2 : ¬ (k2 : Int) < (k2 : Int) := by omega
            have hb210 := HB27.out.trans (hb9.mono HB27.out.size)
            have hb610 := HB7.out.trans (hb9.mono HB7.out.size)
            obtain ⟨w10, rfl⟩ : ∃ w10, w10 = wr := ⟨_, rfl⟩
            have HB610 := Lib.hid hb610
            have HB010 := Lib.hid (show Below base w w10 from HB2.out.trans (hb210.mono (by have := HB2.out.size; have := HBS.out; omega)))
            have hz : base ≤ w10.heap.size := by have := HB2.out.size; have := HBS.out; have := hb210.size; omega
            have HZ10 := Lib.hid hz
            have S0 := Lib.hid (show Q3 T1 w10 base w5.heap.size da M1 k2 (.int .i64 0) w10 from ⟨0, _, M1, T1, rfl, Nat.zero_le _, HD2.out.1.below hb210, ⟨HT1.out.1.2, fun _ => Iff.rfl, HT1.out.2.1, HT1.out.2.2.2.2, by rw [HT1.out.2.2.2.1]; exact HR5.out⟩, fun x hx => ⟨(HOA.out x hx).1, .inl (HOA.out x hx).2⟩, by omega, Fr.refl _ _⟩)
            clear hb9 hk2 hlt2 hb210 hb610 hz
            go_wp2_with fail
            go_loopw [21, 125] (fun _ v125 wz => Hid (Q3 T1 w10 base w5.heap.size da M1 k2 v125 wz)) (fun _ v125 _ => k2 - (intOf v125).toNat)
            case atStart => exact S0
            case round =>
              clear S0
              obtain ⟨k3, O3, M3, T3, rfl, hk3, hd3, hak, hO3, hM3, hF3⟩ := hrel.out
              clear hrel
              by_cases hlt3 : k3 < k2
              · have hki3 : (k3 : Int) < (k2 : Int) := by omega
                obtain ⟨x, hx⟩ : ∃ x, ss1[k3]? = some x := ⟨_, List.getElem?_eq_getElem (by rw [HNS.out.2.1]; exact hlt3)⟩
                obtain ⟨b, rfl, hbn, hcell⟩ := HNS.out.2.2.1 k3 x hx
                obtain ⟨s, hs, hsx⟩ : ∃ s : ByteArray, encStr x = .string s ∧ s.data.toList = x := ⟨_, rfl, by simp⟩
                rw [hs] at hcell
                have hcw := cb hcell HB610.out
                have hbl10 : b < w10.heap.size := block_lt_of_cell hcw
                have hcx : wr.cell? ⟨b, k3, none⟩ = some (.string s) := by
                  rw [World.cell?_of_block (hF3.block b hbl10 (fun hP => by
                    have hP' : base ≤ b ∧ (b < w5.heap.size ∨ w10.heap.size ≤ b) := hP
                    omega))]
                  exact hcw
                have hxn : T3.now s.data.toList ≠ 0 := (hak.names _).2 (by rw [hsx]; exact (HNS.out.1.2 x).1 (List.mem_of_getElem? hx))
                have hks : Ks s := by have := hd3.now.kb hxn; show s.size ≤ maxLen; simpa using this
                obtain ⟨W0, W1, hW0, hcv, hg1, hsl⟩ := lit_bytes wr #[.int .u8 122] [122] 1 rfl rfl (by simp) (by simp)
                have HAP := Lib.hid (append_any O3 da M3 T3 s (some ⟨wr.heap.size, 0, none⟩) 1 1 [122] W1 (hd3.below hg1) hks (by rw [hak.fuse]; exact i64_m1) (by have := HD2.out.2; have := hn1i; omega) hsl rfl (fun b' off' e _ hO => by
                  injection e with e
                  injection e with e _
                  have := hd3.bound _ hO
                  omega) (by simp) ⟨by rw [hak.room]; omega, by rw [hak.room]; omega⟩)
                have H3 := Lib.hid (And.intro hd3 (And.intro hak (And.intro hO3 (And.intro hM3 (And.intro hF3 (And.intro hxn (And.intro hks hg1)))))))
                have HLT3 := Lib.hid hlt3
                clear hx hbn hcell hs hsx hcw hbl10 hxn hks hg1 hsl hd3 hak hO3 hM3 hF3 hlt3
                go_wp2_with fail
                refine HAP.out.mono ?_
                rintro e w11 ⟨C, T4, rfl, hop, hne, h0C, _⟩
                obtain ⟨hd3, hak, hO3, hM3, hF3, hxn, hks, hg1⟩ := H3.out
                obtain ⟨hak2, hfu2⟩ := hak.both hxn hne (fun h => (h0C h).2.2)
                have HSY := Lib.hid (sync_any _ da _ T4 s w11 hop.1 hks hfu2)
                have HOP := Lib.hid (And.intro hop hak2)
                clear hop hne h0C hd3 hak hO3 hM3 hF3 hxn hks hg1 hak2 hfu2 HAP hW0 hcv
                go_wp2_with fail
                refine HSY.out.mono ?_
                rintro e w12 ⟨rfl, hop2⟩
                obtain ⟨hd3, hak, hO3, hM3, hF3, hxn, hks, hg1⟩ := H3.out
                obtain ⟨T5, hT5⟩ : ∃ T5, syncS T4 s.data.toList = T5 := ⟨_, rfl⟩
                rw [hT5] at hop2
                have hak2 := HOP.out.2
                rw [hT5] at hak2
                have z1 := hF3.size
                have z2 := hg1.size
                have z3 := HOP.out.1.2.size
                have hz10 := HZ10.out
                have HX := Lib.hid (show Q3 T1 w10 base w5.heap.size da M1 k2 (.int .i64 ((k3 : Int) + 1)) w12 from ⟨k3 + 1, _, _, T5, by go_num, by have := HLT3.out; omega, hop2.1, hak2, fun x hx => by
                  rcases hx with (hx | ⟨h1, _⟩) | ⟨h1, _⟩
                  · exact hO3 x hx
                  · exact ⟨by omega, .inr (by omega)⟩
                  · exact ⟨by omega, .inr (by omega)⟩, by simp; omega, ((hF3.trans (Fr.of_below (O := fun x => base ≤ x ∧ (x < w5.heap.size ∨ w10.heap.size ≤ x)) hg1) (fun x hx => .inl hx)).trans HOP.out.1.2 (fun x hx => .inl (hO3 x hx))).trans hop2.2 (fun x hx => by
                    rcases hx with hx | ⟨h1, _⟩
                    · exact .inl (hO3 x hx)
                    · exact .inr (by omega))⟩)
                obtain ⟨CC, hCC⟩ : ∃ CC, syncC T4 s.data.toList = CC := ⟨_, rfl⟩
                rw [hCC]
                clear hop2 hd3 hak hO3 hM3 hF3 hxn hks hg1 hT5 hak2 z1 z2 z3 hz10 hCC HSY
                go_wp2_with fail
                refine ⟨HX, ?_⟩
                simp [intOf]
                have := HLT3.out
                omega
              · have hkn3 : k3 = k2 := by omega
                subst hkn3
                have hki3 : ¬ (k3 : Int) < (k3 : Int) := by omega
                have HSN := Lib.hid (syncnames_any O3 da M3 T3 wr hd3 (by rw [hak.fuse]; exact i64_m1))
                have H3 := Lib.hid (And.intro hak (And.intro hO3 (And.intro hM3 hF3)))
                clear hd3 hak hO3 hM3 hF3 hk3 hlt3
                go_wp2_with fail
                refine HSN.out.mono ?_
                rintro e w13 ⟨rfl, _, hz⟩
                obtain ⟨hak, hO3, hM3, hF3⟩ := H3.out
                obtain ⟨e1, e2⟩ := step_on hak.down hak.fuse
                obtain ⟨sb, hop⟩ := hz e1
                obtain ⟨T6, hT6⟩ : ∃ T6 : PD, { stepS T3 with sb := sb, sure := (stepS T3).now } = T6 := ⟨_, rfl⟩
                rw [hT6] at hop
                have hn6 : T6.now = T3.now := by rw [← hT6, e2]
                have has6 : AllSure T6 := by
                  rw [← hT6, e2]
                  exact ⟨rfl, fun s hs => hak.k s hs⟩
                have hd6 : T6.down = false := by rw [← hT6, e2]; exact hak.down
                have hM3b : M3 ≤ 122400 := by have := HLS.out; have := HD2.out.2; omega
                have hbw : Below base w w13 := hop.2.below (hF3.below HB010.out (by have := HZ10.out; omega) (fun x hx => hx.1)) (by have := HZ10.out; have := hF3.size; omega) (fun x hx => (hO3 x hx).1)
                have hpast : ∀ x : Nat, w5.heap.size ≤ x → x < w10.heap.size → w13.heap[x]? = w10.heap[x]? := fun x h1 h2 => by
                  have hnO : ∀ y, (base ≤ y ∧ (y < w5.heap.size ∨ w10.heap.size ≤ y)) → y ≠ x := fun y hy => by omega
                  rw [hop.2.block x (by have := hF3.size; omega) (fun hO => hnO x (hO3 x hO) rfl)]
                  exact hF3.block x h2 (fun hP => hnO x hP rfl)
                have HC3 := Lib.hid (show Calls Try.prog 14 #[.pointer (some ⟨da, 0, none⟩), .slice Bk mk ck, .slice Bu mu cu] w13 (CrP w13 M3 T6 ks us) from by
                  obtain ⟨hk1, hmk, hu1, hmu, hu16, hul⟩ := HKU.out
                  exact crash_any _ da M3 T6 w13 hop.1 (by omega) Bk mk ck ks (hk1.below (by rw [HBS.out]; exact hbw)) hmk Bu mu cu us (hu1.below (by rw [HBS.out]; exact hbw)) hmu hu16)
                have H6 := Lib.hid (And.intro hop.1 (And.intro has6 (And.intro hd6 (And.intro hM3b (And.intro hbw (And.intro hpast (show ∀ z, T6.now z ≠ 0 ↔ T1.now z ≠ 0 from fun z => by rw [hn6]; exact hak.names z)))))))
                obtain ⟨E3, hE3⟩ : ∃ E3, stepE T3 = E3 := ⟨_, rfl⟩
                rw [hE3]
                clear hz hak hO3 hM3 hF3 e1 e2 hop hT6 hn6 has6 hd6 hM3b hbw hpast hE3 HSN
                go_wp2_with fail
                refine HC3.out.mono ?_
                rintro e w14 ⟨dc, s1, s2, l3, T7, hl, hn1, hn2, hl1, hl2, rfl, _, hci, hst, hdT, hb14⟩
                have hM7 : M3 + l3.length ≤ 367200 := by
                  have h3 := Lib.compact_length_le (srt (srt s1 ++ s2))
                  rw [← hl] at h3
                  simp only [srt, List.length_mergeSort, List.length_append] at h3
                  have := H6.out.2.2.2.1
                  omega
                have H7 := Lib.hid (And.intro (H6.out.2.1.crash hn1 hl hci) (And.intro hci.down (And.intro hdT (And.intro hM7 hb14))))
                have HNC := Lib.hid (show ∀ i x, ss1[i]? = some x → ∃ b, A6 = some ⟨b, 0, none⟩ ∧ w14.cell? ⟨b, i, none⟩ = some (encStr x) from fun i x hx => by
                  obtain ⟨b, hb, hbn, hcell⟩ := HNS.out.2.2.1 i x hx
                  have hcw := cb hcell HB610.out
                  have hbl10 : b < w10.heap.size := block_lt_of_cell hcw
                  have h13 : w13.cell? ⟨b, i, none⟩ = some (encStr x) := by
                    rw [World.cell?_of_block (w := w10) (H6.out.2.2.2.2.2.1 b hbn hbl10)]
                    exact hcw
                  exact ⟨b, hb, cb h13 hb14⟩)
                have S0 := Lib.hid (show ∃ k : Nat, (Value.int .i64 0) = .int .i64 (k : Int) ∧ k ≤ k3 ∧ Below w14.heap.size w14 w14 from ⟨0, rfl, Nat.zero_le _, Below.refl _ _⟩)
                clear hl hn1 hn2 hl1 hl2 hci hst hdT hb14 hM7 HC3
                go_wp2_with fail
                go_loopw [6, 24, 25, 26, 27, 28, 146] (fun _ _ _ _ _ _ v146 wr => Hid (∃ k : Nat, v146 = .int .i64 (k : Int) ∧ k ≤ k3 ∧ Below w14.heap.size w14 wr)) (fun _ _ _ _ _ _ v146 _ => k3 - (intOf v146).toNat)
                case atStart => exact S0
                case round =>
                  clear S0
                  obtain ⟨k4, rfl, hk4, hb9⟩ := hrel.out
                  clear hrel
                  by_cases hlt4 : k4 < k3
                  · have hki4 : (k4 : Int) < (k3 : Int) := by omega
                    obtain ⟨x, hx⟩ : ∃ x, ss1[k4]? = some x := ⟨_, List.getElem?_eq_getElem (by rw [HNS.out.2.1]; exact hlt4)⟩
                    obtain ⟨b, rfl, hcell⟩ := HNC.out k4 x hx
                    obtain ⟨s, hs, hsx⟩ : ∃ s : ByteArray, encStr x = .string s ∧ s.data.toList = x := ⟨_, rfl, by simp⟩
                    rw [hs] at hcell
                    have hcx : wr.cell? ⟨b, k4, none⟩ = some (.string s) := cb hcell hb9
                    obtain ⟨g1, g2, g3, g4, g5⟩ := H7.out
                    have hda := H6.out.1.below (g5.trans (hb9.mono g5.size))
                    have hdb := g3.below hb9
                    have hxn : T6.now s.data.toList ≠ 0 := (H6.out.2.2.2.2.2.2 _).2 (by rw [hsx]; exact (HNS.out.1.2 x).1 (List.mem_of_getElem? hx))
                    have hks : Ks s := by have := hda.now.kb hxn; show s.size ≤ maxLen; simpa using this
                    obtain ⟨hx2, hbs⟩ := g1 s.data.toList
                    have hxn2 := hx2.2 hxn
                    obtain ⟨bs, hbse⟩ : ∃ bs, (T6.F (T6.now s.data.toList)).bs = bs := ⟨_, rfl⟩
                    have hbs2 := hbs hxn
                    rw [hbse] at hbs2
                    have HRA := Lib.hid (show Calls Try.prog 15 #[.pointer (some ⟨da, 0, none⟩), .string s] wr (ReadQ wr 0 bs) from by
                      have hr := read_any _ da M3 T6 s wr hda hks (by have := H6.out.2.2.2.1; omega)
                      unfold ReadP readC at hr
                      rw [H6.out.2.2.1, if_neg (by simp), if_neg hxn, hbse] at hr
                      exact hr)
                    have HRB := Lib.hid (show ∀ W, Below wr.heap.size wr W → Calls Try.prog 15 #[.pointer (some ⟨dc, 0, none⟩), .string s] W (ReadQ W 0 bs) from fun W hW => by
                      have hr := read_any _ dc _ T7 s W (hdb.below hW) hks (by omega)
                      unfold ReadP readC at hr
                      rw [g2, if_neg (by simp), if_neg hxn2, hbs2] at hr
                      exact hr)
                    have HLT4 := Lib.hid hlt4
                    have HB9 := Lib.hid hb9
                    clear hx hs hsx hcell g1 g2 g3 g4 g5 hda hdb hxn hks hx2 hbs hxn2 hbse hbs2 hlt4 hb9
                    go_wp2_with fail
                    refine HRA.out.mono ?_
                    rintro e wa ⟨Aa, na, ca, rfl, hba, hra⟩
                    obtain ⟨hna, hsa⟩ := hra rfl
                    have HRA2 := Lib.hid (And.intro hna (And.intro hsa hba))
                    have HRB2 := Lib.hid (HRB.out wa hba)
                    clear hna hsa hba hra HRA HRB
                    go_wp2_with fail
                    refine HRB2.out.mono ?_
                    rintro e wb ⟨Ab, nb, cb2, rfl, hbb, hrb⟩
                    obtain ⟨hnb, hsb⟩ := hrb rfl
                    have cva := sl_text (HRA2.out.2.1.kept (Tk.Kept.of_below hbb)) HRA2.out.1
                    have cvb := sl_text hsb hnb
                    obtain ⟨tb, htb⟩ : ∃ tb, txt bs = tb := ⟨_, rfl⟩
                    rw [htb] at cva cvb
                    have hss : (tb.toList == tb.toList) = true := by simp
                    have HB10 := Lib.hid (show Below w14.heap.size w14 wb from (HB9.out.trans (HRA2.out.2.2.mono HB9.out.size)).trans (hbb.mono (Nat.le_trans HB9.out.size HRA2.out.2.2.size)))
                    clear hbb hrb hnb hsb htb HRB2
                    go_wp2_with fail
                    refine ⟨Lib.hid ⟨k4 + 1, by go_num, by have := HLT4.out; omega, HB10.out⟩, ?_⟩
                    simp [intOf]
                    have := HLT4.out
                    omega
                  · have hkn4 : k4 = k3 := by omega
                    subst hkn4
                    have hki4 : ¬ (k4 : Int) < (k4 : Int) := by omega
                    have HA := Lib.hid (awake13 wr)
                    have HBE := Lib.hid (show Below base w wr from H6.out.2.2.2.2.1.trans ((H7.out.2.2.2.2.trans (hb9.mono H7.out.2.2.2.2.size)).mono (by have := H6.out.2.2.2.2.1.size; have := HBS.out; omega)))
                    clear hb9 hk4 hlt4
                    go_wp2_with fail
                    refine HA.out.mono ?_
                    rintro e we ⟨rfl, hbe⟩
                    have HX := Lib.hid (show Below base w we from HBE.out.trans (hbe.mono (by have := HBE.out.size; have := HBS.out; omega)))
                    clear hbe
                    go_wp2_with fail
                    go_ret
                    exact ⟨rfl, HX.out⟩
end Go.Proofs.Ytapjdffiakglkaa.Dk
