/- DiskLasts, walked. -/
import Derived.Test.YtamhgbkdljggbaaDlA
namespace Go.Proofs.Ytamhgbkdljggbaa.Dk
open Go.RowKit Go.Maps Go.Sort Go.Proofs
set_option linter.unusedVariables false

/-- so many steps are done -/
def L1 (w : World) (base n q : Nat) (b : ByteArray) (v13 v68 : Value) (wr : World) : Prop := ∃ (k : Nat) (O Oq : Nat → Prop) (M N : Nat) (S : PD) (Sq : RS) (mo : ByteArray), v13 = .string mo ∧ v68 = .int .i64 (k : Int) ∧ k ≤ n ∧ DK O wr base M S ∧ RD Oq wr q N Sq ∧ (∀ x, O x → ¬ Oq x) ∧
  (∀ x, O x → base ≤ x) ∧ (∀ x, Oq x → base ≤ x) ∧ I64 S.fuse ∧ S.room = 1048576 ∧ M ≤ 502 + 102 * k ∧ N ≤ 102 * k ∧ Sur S xS.data.toList (byN b) (byN mo) ∧ mo.size ≤ 100 * k ∧ Below base w wr
theorem sum_in {a : Nat} {z : Int} (h : a ≤ 500) (k0 : 0 ≤ z) (k : z ≤ 10000) : wrap64 ((a : Int) + z) = (a : Int) + z := IntWalk.wrap64_in _ ⟨by omega, by omega⟩
theorem not_list {l m : List UInt8} (h : ¬ l = m) : ¬ l = m ∧ (l == m) = false := ⟨h, by simpa using h⟩
set_option maxHeartbeats 4000000 in
set_option maxRecDepth 100000 in
theorem lasts_main (b : ByteArray) (Ao : Option Addr) (co : Nat) (l : List OpD) (fu : Int) (hfu0 : 0 ≤ fu) (hfu1 : fu < 256) (Bk : Option Addr) (mk ck : Nat) (ks : List Bool) (Bu : Option Addr) (mu cu : Nat) (us : List Nat) (w : World) (hbs : b.size ≤ maxLen) (hO : Opq w Ao l) (hk : Tk.Cl w Bk (ks.map Value.bool)) (hmk : mk = ks.length)
    (hu : Tk.Cl w Bu (us.map fun u : Nat => Value.int .u16 (u : Int))) (hmu : mu = us.length) (hu16 : ∀ u ∈ us, u < 65536) :
    Calls Try.prog 3 #[.string b, .slice Ao l.length co, .int .u8 fu, .slice Bk mk ck, .slice Bu mu cu] w fun e w' => e = .returned (.bool true) ∧ Below w.heap.size w w' := by
  obtain ⟨n, hn⟩ : ∃ n, l.length = n := ⟨_, rfl⟩
  obtain ⟨base, hbase⟩ : ∃ base, w.heap.size = base := ⟨_, rfl⟩
  have HO := Lib.hid hO
  have HKU := Lib.hid (And.intro hk (And.intro hmk (And.intro hu (And.intro hmu hu16))))
  have HN := Lib.hid hn
  have HN0 := Lib.hid (new_any 1048576 w (by omega) (by omega))
  have HFU := Lib.hid (And.intro hfu0 hfu1)
  rw [hbase] at HN0 ⊢
  rw [hn]
  obtain ⟨nb, hnb⟩ : ∃ nb, b.size = nb := ⟨_, rfl⟩
  have HNB := Lib.hid hnb
  clear hO hk hmk hu hmu hu16 hn hfu0 hfu1
  go_enter Try.func3, Try.ntmps3
  go_wp2_with fail
  refine HN0.out.mono ?_
  rintro e w1 ⟨rfl, hd1, hb1, hz1⟩
  have HW1 := Lib.hid (And.intro hd1 (And.intro hb1 hz1))
  have HBS := Lib.hid hbase
  clear hd1 hb1 hz1 HN0 hbase
  have HAW := Lib.hid (show Calls Try.prog 7 #[] w1 (fun e w' => e = .returned (.bool true) ∧ Below base w w') from (awake13 w1).mono fun e w2 ⟨he, hb2⟩ => ⟨he, HW1.out.2.1.trans (hb2.mono (by have := HW1.out.2.2; omega))⟩)
  by_cases h500 : 500 < nb
  · have hd5 : (500 : Int) < (nb : Int) := by omega
    clear h500
    go_wp2_with fail
    refine HAW.out.mono ?_
    rintro e w2 ⟨rfl, hb2⟩
    have HB2 := Lib.hid hb2
    clear hb2
    go_wp2_with fail
    go_ret
    exact ⟨rfl, HB2.out⟩
  have hd5 : ¬ (500 : Int) < (nb : Int) := by omega
  by_cases h100 : 100 < n
  · have hd100 : (100 : Int) < (n : Int) := by omega
    clear h100
    go_wp2_with fail
    refine HAW.out.mono ?_
    rintro e w2 ⟨rfl, hb2⟩
    have HB2 := Lib.hid hb2
    clear hb2
    go_wp2_with fail
    go_ret
    exact ⟨rfl, HB2.out⟩
  have hd100 : ¬ (100 : Int) < (n : Int) := by omega
  have HN100 := Lib.hid (show n ≤ 100 by omega)
  have HB500 := Lib.hid (show b.size ≤ 500 by have := HNB.out; omega)
  clear h500 h100 HAW
  obtain ⟨cpb, W, hcv, hbW, hltW, hsl⟩ := str_bytes b w1 hbs
  rw [HNB.out] at hcv
  have hd1 := HW1.out.1.mono (O' := OB base w1) (fun k hk => by have : k = base := hk; exact ⟨by omega, by have := HW1.out.2.2; have := HBS.out; omega⟩) (fun k hk => hk.2) (Nat.le_refl _)
  obtain ⟨a1, ha1⟩ : ∃ a1, w1.heap.size = a1 := ⟨_, rfl⟩
  have HA1 := Lib.hid ha1
  rw [ha1] at hcv hsl hbW
  have HAP := Lib.hid (append_any (OB base w1) base 0 (newS 1048576) xS (some ⟨a1, 0, none⟩) nb cpb (byN b) W (hd1.below (by rw [ha1]; exact hbW)) xS_key i64_m1 (by omega) hsl (by rw [byN_length]; exact HNB.out.symm) (fun b' off e _ hO => by
    injection e with e
    injection e with e _
    have := hO.2
    have := HA1.out
    omega) (by rw [byN_length]; have := HB500.out; omega) ⟨by show (0 : Int) ≤ 1048576; omega, by show (1048576 : Int) ≤ 1048576; omega⟩)
  have HCV := Lib.hid (And.intro hbW hltW)
  clear hd1 hsl hbW hltW ha1
  go_wp2_with fail
  refine HAP.out.mono ?_
  rintro e w2 ⟨C, S2, rfl, hop, _, h0C, _, hC0⟩
  obtain ⟨q1, q2⟩ := step_on (S := newS 1048576) rfl rfl
  obtain rfl : C = 0 := hC0 q1 xS_ok (.inl ⟨fun z => by rw [q2]; rfl, by rw [q2, byN_length]; show _ ≤ (1048576 : Int); have := HB500.out; omega⟩)
  have hF2 := fst_app (h0C rfl).2.2
  obtain ⟨hd2, hb2⟩ := ob_to hop (by rw [HA1.out]; exact HCV.out.1) (by have := HW1.out.2.2; have := HBS.out; omega)
  obtain ⟨y1, y2, y3⟩ := fst_sync hF2
  have HSY := Lib.hid (sync_any _ base _ S2 xS w2 hd2 xS_key (by rw [hF2.fuse]; exact i64_m1))
  rw [y1] at HSY
  have HB2 := Lib.hid (show Below base w w2 ∧ base ≤ w2.heap.size from by
    have h1 := HW1.out.2.1
    have h2 := HCV.out.1
    have h3 := HW1.out.2.2
    have h4 := HBS.out
    have h5 := HCV.out.2
    have h6 := HA1.out
    have h7 := (h1.trans (h2.mono (by omega))).trans (hb2.mono (by omega))
    exact ⟨h7, by have := hb2.size; omega⟩)
  have HY := Lib.hid (And.intro y2 y3)
  clear hop h0C hC0 q1 q2 hF2 hd2 hb2 y1 y2 y3 hcv HCV
  go_wp2_with fail
  refine HSY.out.mono ?_
  rintro e w3 ⟨rfl, hop⟩
  obtain ⟨hd3, hb3⟩ := ob_op hop HB2.out.2
  obtain ⟨S3, hS3⟩ : ∃ S3, syncS S2 xS.data.toList = S3 := ⟨_, rfl⟩
  rw [hS3] at hd3 HY
  have HSN := Lib.hid (syncnames_any _ base _ S3 w3 hd3 (by rw [HY.out.1.fuse]; exact i64_m1))
  rw [(fst_names HY.out.1 HY.out.2 none fu).1] at HSN
  have HB3 := Lib.hid (show Below base w w3 ∧ base ≤ w3.heap.size from ⟨HB2.out.1.trans (hb3.mono (by omega)), by have := hb3.size; have := HB2.out.2; omega⟩)
  clear hop hd3 hb3 hS3
  go_wp2_with fail
  refine HSN.out.mono ?_
  rintro e w4 ⟨rfl, _, hz⟩
  obtain ⟨sb, hop⟩ := hz rfl
  obtain ⟨hd4, hb4⟩ := ob_op hop HB3.out.2
  obtain ⟨_, hsu, hro⟩ := fst_names HY.out.1 HY.out.2 sb fu
  have HFS := Lib.hid (fuse_any _ base _ _ fu w4 hd4)
  have HB4 := Lib.hid (show Below base w w4 ∧ base ≤ w4.heap.size from ⟨HB3.out.1.trans (hb4.mono (by omega)), by have := hb4.size; have := HB3.out.2; omega⟩)
  have HSU := Lib.hid (And.intro hsu hro)
  have hwf : wrap64 fu = fu := by have := HFU.out; unfold wrap64; omega
  clear hz hop hd4 hb4 hsu hro
  go_wp2_with fail
  refine HFS.out.mono ?_
  rintro e w5 ⟨rfl, hd5', hfr5⟩
  obtain ⟨S5, hS5⟩ : ∃ S5 : PD, { ({ stepS S3 with sb := sb, sure := (stepS S3).now } : PD) with fuse := fu } = S5 := ⟨_, rfl⟩
  have hsu := HSU.out.1
  have hro : S5.room = 1048576 := by rw [← hS5]; exact HSU.out.2
  have hfu5 : S5.fuse = fu := by rw [← hS5]
  have hd5'' : DK (OB base w4) w5 base (0 + (byN b).length + 2) S5 := hS5 ▸ hd5'
  rw [hS5] at hsu
  have H5 := Lib.hid (And.intro hd5'' (And.intro hsu (And.intro hro (And.intro hfu5 (And.intro (hfr5.below HB4.out.1 HB4.out.2 (fun x hx => hx.1)) hfr5.size)))))
  have HRN := Lib.hid (rnew_any 1048576 w5)
  clear hd5' hfr5 hS5 hsu hro hfu5 hd5'' HFS HSN HSY HAP hwf
  go_wp2_with fail
  refine HRN.out.mono ?_
  rintro e w6 ⟨q, Sq, rfl, hrd, hb6⟩
  have S0 := Lib.hid (show L1 w base n q b (.string ⟨#[]⟩) (.int .i64 0) w6 from by
    obtain ⟨g1, g2, g3, g4, g5, g6⟩ := H5.out
    have h7 := hb6.size
    have h8 := HB4.out.2
    have h9 := HFU.out
    refine ⟨0, OB base w4, _, _, 0, S5, Sq, ⟨#[]⟩, rfl, rfl, Nat.zero_le _, g1.below hb6, hrd, fun x h1 h2 => ?_, fun x h => h.1, fun x h => ?_, ?_, g3, ?_, Nat.zero_le _, g2, Nat.zero_le _, g5.trans (hb6.mono (by omega))⟩
    · have := h1.2; have := h2.1; omega
    · have := h.1; omega
    · rw [g4]; unfold I64; omega
    · rw [byN_length]; have := HB500.out; omega)
  clear hrd hb6 H5
  go_wp2_with fail
  go_loopw [13, 16, 17, 18, 68] (fun v13 _ _ _ v68 wr => Hid (L1 w base n q b v13 v68 wr)) (fun _ _ _ _ v68 _ => n - (intOf v68).toNat)
  case atStart => exact S0
  case round =>
    clear S0
    obtain ⟨k, O, Oq, M, N, S, Sq, mo, rfl, rfl, hkn, hdk, hrd, hap, hOb, hOq, hfu, hro, hM, hN, hsu, hmo, hbl⟩ := hrel.out
    clear hrel
    by_cases hlt : k < n
    · have hki : (k : Int) < (n : Int) := by omega
      obtain ⟨p, hp⟩ : ∃ p, l[k]? = some p := ⟨_, List.getElem?_eq_getElem (by have := HN.out; omega)⟩
      obtain ⟨hpb, hpc⟩ := HO.out
      obtain ⟨pA, pB, pn⟩ := hpb p (List.mem_of_getElem? hp)
      obtain ⟨kd, A, B, nn, Kb, kn, kc, Cb, cn, cc⟩ := p
      rcases hpc with hnil | ⟨bo, off, rfl, hc⟩
      · rw [hnil] at hp; cases hp
      have hcw : ∀ j v, (opV ⟨kd, A, B, nn, Kb, kn, kc, Cb, cn, cc⟩)[j]? = some v → wr.cell? ⟨bo, off + k * 6 + j, none⟩ = some v := fun j v hj => by
        have hcl := hc k _ hp j v hj
        have hlt := block_lt_of_cell hcl
        have e := HBS.out
        rw [hbl.cell (p := ⟨bo, off + k * 6 + j, none⟩) (by rw [← e]; exact hlt)]
        exact hcl
      have q0 : wr.cell? ⟨bo, off + k * 6, none⟩ = some (.int .i64 kd) := hcw 0 _ rfl
      have q1 := hcw 1 _ rfl
      have q2 := hcw 2 _ rfl
      have q3 := hcw 3 _ rfl
      have q4 := hcw 4 _ rfl
      have q5 := hcw 5 _ rfl
      have HP := Lib.hid (show A.size ≤ maxLen ∧ B.size ≤ maxLen ∧ I64 nn from ⟨pA, pB, pn⟩)
      obtain ⟨W2, hW2⟩ : ∃ W2, wr.alloc (.cells #[.int .i64 kd, .string A, .string B, .int .i64 nn, .slice Kb kn kc, .slice Cb cn cc] 38 (0, 0)) = W2 := ⟨_, rfl⟩
      obtain ⟨g10, hg10⟩ : ∃ g10, wr.heap.size = g10 := ⟨_, rfl⟩
      have hgb : Below wr.heap.size wr W2 := hW2 ▸ grows wr _
      have hbx : W2.heap[g10]? = some (.cells #[.int .i64 kd, .string A, .string B, .int .i64 nn, .slice Kb kn kc, .slice Cb cn cc] 38 (0, 0)) := hg10 ▸ hW2 ▸ heap_alloc_new wr _
      have x0 : W2.cell? ⟨g10, 0, none⟩ = some (.int .i64 kd) := by rw [cell_of_row _ _ _ _ _ _ hbx]; rfl
      have x1 : W2.cell? ⟨g10, 1, none⟩ = some (.string A) := by rw [cell_of_row _ _ _ _ _ _ hbx]; rfl
      have x2 : W2.cell? ⟨g10, 2, none⟩ = some (.string B) := by rw [cell_of_row _ _ _ _ _ _ hbx]; rfl
      have x3 : W2.cell? ⟨g10, 3, none⟩ = some (.int .i64 nn) := by rw [cell_of_row _ _ _ _ _ _ hbx]; rfl
      have x4 : W2.cell? ⟨g10, 4, none⟩ = some (.slice Kb kn kc) := by rw [cell_of_row _ _ _ _ _ _ hbx]; rfl
      have x5 : W2.cell? ⟨g10, 5, none⟩ = some (.slice Cb cn cc) := by rw [cell_of_row _ _ _ _ _ _ hbx]; rfl
      have HGB := Lib.hid hgb
      have HGX := Lib.hid (show ∀ W, Below W2.heap.size W2 W → ∀ j v, W2.cell? ⟨g10, j, none⟩ = some v → W.cell? ⟨g10, j, none⟩ = some v from fun W hW j v hv => cb hv hW)
      -- a step that isn't let through
      have HSK := Lib.hid (show L1 w base n q b (.string mo) (.int .i64 ((k : Int) + 1)) W2 from ⟨k + 1, O, Oq, M, N, S, Sq, mo, rfl, by go_num, by omega, hdk.below hgb, hrd.below hgb, hap, hOb, hOq, hfu, hro, by omega, by omega, hsu, by omega, hbl.trans (hgb.mono (by have := hbl.size; have := HBS.out; omega))⟩)
      have HR := Lib.hid (And.intro hdk (And.intro hrd (And.intro hap (And.intro hOb (And.intro hOq (And.intro hfu (And.intro hro (And.intro hM (And.intro hN (And.intro hsu (And.intro hmo hbl)))))))))))
      have HLT := Lib.hid hlt
      obtain ⟨ea, hea⟩ : ∃ ea, decide (A.data.toList = xS.data.toList) = ea := ⟨_, rfl⟩
      obtain ⟨eb, heb⟩ : ∃ eb, decide (B.data.toList = xS.data.toList) = eb := ⟨_, rfl⟩
      have HEA := Lib.hid (show ea = decide (A.data.toList = xS.data.toList) from hea.symm)
      have HAL := Lib.hid (show (ea = true → A.toList = [115, 117, 114, 101]) ∧ (ea = false → ¬ A.toList = [115, 117, 114, 101] ∧ (A.toList == [115, 117, 114, 101]) = false) from ⟨fun h => (Lib.toList_data A).trans (of_decide_eq_true (hea.trans h)), fun h => not_list (fun h2 => of_decide_eq_false (hea.trans h) ((Lib.toList_data A).symm.trans h2))⟩)
      clear hea
      have HEB := Lib.hid (show eb = decide (B.data.toList = xS.data.toList) from heb.symm)
      have HBL2 := Lib.hid (show (eb = true → B.toList = [115, 117, 114, 101]) ∧ (eb = false → ¬ B.toList = [115, 117, 114, 101] ∧ (B.toList == [115, 117, 114, 101]) = false) from ⟨fun h => (Lib.toList_data B).trans (of_decide_eq_true (heb.trans h)), fun h => not_list (fun h2 => of_decide_eq_false (heb.trans h) ((Lib.toList_data B).symm.trans h2))⟩)
      clear heb
      clear hpb hc hcw hp pA pB pn hdk hrd hap hOb hOq hfu hro hM hN hsu hmo hbl hgb hbx hlt hkn
      have hcases : 100 < B.size ∨ (B.size ≤ 100 ∧ ((kd = 2 ∧ (ea = true ∨ (ea = false ∧ eb = true))) ∨ (kd = 3 ∧ ea = true) ∨ 4 < kd ∨ (kd ≤ 4 ∧ (kd = 2 → ea = false ∧ eb = false) ∧ (kd = 3 → ea = false)))) := by
        rcases Nat.lt_or_ge 100 B.size with h | h
        · exact .inl h
        · refine .inr ⟨h, ?_⟩
          by_cases c2 : kd = 2
          · cases ea
            · cases eb
              · exact .inr (.inr (.inr ⟨by omega, fun _ => ⟨rfl, rfl⟩, fun _ => rfl⟩))
              · exact .inl ⟨c2, .inr ⟨rfl, rfl⟩⟩
            · exact .inl ⟨c2, .inl rfl⟩
          · by_cases c3 : kd = 3
            · cases ea
              · exact .inr (.inr (.inr ⟨by omega, fun h => absurd h c2, fun _ => rfl⟩))
              · exact .inr (.inl ⟨c3, rfl⟩)
            · by_cases c4 : 4 < kd
              · exact .inr (.inr (.inl c4))
              · exact .inr (.inr (.inr ⟨by omega, fun h => absurd h c2, fun h => absurd h c3⟩))
      rcases hcases with hB | ⟨hB, hcases⟩
      · have hBd : (100 : Int) < (B.size : Int) := by omega
        clear hB
        go_wp2_with fail
        refine ⟨HSK, ?_⟩
        simp [intOf]
        have := HLT.out
        omega
      have hBd : ¬ (100 : Int) < (B.size : Int) := by omega
      have HBL := Lib.hid hB
      clear hB
      rcases hcases with ⟨rfl, hcases⟩ | ⟨rfl, rfl⟩ | c4 | ⟨c4, c2, c3⟩
      · rcases hcases with rfl | ⟨rfl, rfl⟩
        · have tA := HAL.out.1 rfl
          go_wp2_with fail
          refine ⟨HSK, ?_⟩
          simp [intOf]
          have := HLT.out
          omega
        · obtain ⟨tA, tA2⟩ := HAL.out.2 rfl
          have tB := HBL2.out.1 rfl
          go_wp2_with fail
          refine ⟨HSK, ?_⟩
          simp [intOf]
          have := HLT.out
          omega
      · have tA := HAL.out.1 rfl
        go_wp2_with fail
        refine ⟨HSK, ?_⟩
        simp [intOf]
        have := HLT.out
        omega
      · have n2 : ¬ kd = 2 := by omega
        have n3 : ¬ kd = 3 := by omega
        go_wp2_with fail
        refine ⟨HSK, ?_⟩
        simp [intOf]
        have := HLT.out
        omega
      -- one that is: three kinds
      have n4 : ¬ (4 : Int) < kd := by omega
      obtain ⟨hdk, hrd, hap, hOb, hOq, hfu, hro, hM, hN, hsu, hmo, hbl⟩ := HR.out
      have hkn := HLT.out
      have HD := Lib.hid (do_any O Oq base q M N S Sq kd nn A B Kb kn kc Cb cn cc W2 (hdk.below HGB.out) (hrd.below HGB.out) hap HP.out.1 (by have := HBL.out; omega) hfu (by rw [hro]; omega) (by have := HN100.out; omega) (by have := HN100.out; omega))
      clear hdk hrd hap hOb hOq hfu hro hM hN hsu hmo hbl hkn
      have HC := Lib.hid (And.intro c4 (And.intro c2 c3))
      have hall : (kd = 2 ∧ ea = false ∧ eb = false) ∨ (kd = 3 ∧ ea = false) ∨ (¬ kd = 2 ∧ ¬ kd = 3) := by
        by_cases h2 : kd = 2
        · exact .inl ⟨h2, c2 h2⟩
        · by_cases h3 : kd = 3
          · exact .inr (.inl ⟨h3, c3 h3⟩)
          · exact .inr (.inr ⟨h2, h3⟩)
      have HDO := Lib.hid (show ∀ e w4, DoP O Oq W2 base q (M + B.size + 2) (N + B.size + 2) kd A B nn S e w4 → ∃ C z : Int, e = .returned (.tuple #[.int .i64 C, .int .i64 z]) ∧ (∀ j v, W2.cell? ⟨g10, j, none⟩ = some v → w4.cell? ⟨g10, j, none⟩ = some v) ∧
          (kd = 0 ∧ ea = true ∧ C = 0 → L1 w base n q b (.string (mo ++ B)) (.int .i64 ((k : Int) + 1)) w4) ∧ (¬ (kd = 0 ∧ ea = true ∧ C = 0) → L1 w base n q b (.string mo) (.int .i64 ((k : Int) + 1)) w4) from by
        rintro e w4 ⟨C, z, S', Od', Oq', Sq', rfl, ha, hdk4, hrd4, hfr, hds⟩
        obtain ⟨hdk, hrd, hap, hOb, hOq, hfu, hro, hM, hN, hsu, hmo, hbl⟩ := HR.out
        obtain ⟨c4, c2, c3⟩ := HC.out
        obtain ⟨hr1, hr2⟩ := hds.keep hfu HP.out.2.2
        have hb2 := HBL.out
        have hkn := HLT.out
        have s1 := hbl.size
        have s2 := HGB.out.size
        have s3 := HBS.out
        have hs' := hsu.doS hds c4 (fun h => by
          obtain ⟨r1, r2⟩ := c2 h
          exact ⟨of_decide_eq_false (HEA.out.symm.trans r1), of_decide_eq_false (HEB.out.symm.trans r2)⟩) (fun h => of_decide_eq_false (HEA.out.symm.trans (c3 h)))
        have hbe : Below base w w4 := hfr.below (hbl.trans (HGB.out.mono (by omega))) (by omega) (fun x hx => hx.elim (hOb x) (hOq x))
        have hg10 : ∀ x, (O x ∨ Oq x) → x ≠ g10 := fun x hx => by
          rcases hx with hx | hx
          · have := hdk.bound x hx; omega
          · have := hrd.bound x hx; omega
        refine ⟨C, z, rfl, fun j v hv => ?_, fun hc => ?_, fun hc => ?_⟩
        · rw [World.cell?_of_block (w := W2) (hfr.block g10 (block_lt_of_cell hv) (fun hO => hg10 _ hO rfl))]
          exact hv
        · rw [if_pos ⟨hc.1, of_decide_eq_true (HEA.out.symm.trans hc.2.1), hc.2.2⟩, ← byN_append] at hs'
          exact ⟨k + 1, Od', Oq', _, _, S', Sq', mo ++ B, rfl, by go_num, by omega, hdk4, hrd4, ha.1, fun x hx => (ha.2.1 x hx).elim (hOb x) (fun h => by omega), fun x hx => (ha.2.2 x hx).elim (hOq x) (fun h => by omega), hr2, hr1.trans hro, by omega, by omega, hs', by simp; omega, hbe⟩
        · rw [if_neg (fun h => hc ⟨h.1, HEA.out.trans (decide_eq_true h.2.1), h.2.2⟩)] at hs'
          exact ⟨k + 1, Od', Oq', _, _, S', Sq', mo, rfl, by go_num, by omega, hdk4, hrd4, ha.1, fun x hx => (ha.2.1 x hx).elim (hOb x) (fun h => by omega), fun x hx => (ha.2.2 x hx).elim (hOq x) (fun h => by omega), hr2, hr1.trans hro, by omega, by omega, hs', by omega, hbe⟩)
      clear c2 c3
      rcases hall with ⟨rfl, rfl, rfl⟩ | ⟨rfl, rfl⟩ | ⟨n2, n3⟩
      · clear n4
        obtain ⟨tA, tA2⟩ := HAL.out.2 rfl
        obtain ⟨tB, tB2⟩ := HBL2.out.2 rfl
        go_wp2_with fail
        refine HD.out.mono ?_
        intro e w4 hdo
        obtain ⟨C, z, rfl, hcw, _, hno⟩ := HDO.out e w4 hdo
        have HX := Lib.hid (hno (by simp))
        have y0 := hcw 0 _ x0
        clear hdo hcw hno
        go_wp2_with fail
        refine ⟨HX, ?_⟩
        simp [intOf]
        have := HLT.out
        omega
      · clear n4
        obtain ⟨tA, tA2⟩ := HAL.out.2 rfl
        go_wp2_with fail
        refine HD.out.mono ?_
        intro e w4 hdo
        obtain ⟨C, z, rfl, hcw, _, hno⟩ := HDO.out e w4 hdo
        have HX := Lib.hid (hno (by simp))
        have y0 := hcw 0 _ x0
        clear hdo hcw hno
        go_wp2_with fail
        refine ⟨HX, ?_⟩
        simp [intOf]
        have := HLT.out
        omega
      · go_wp2_with fail
        refine HD.out.mono ?_
        intro e w4 hdo
        obtain ⟨C, z, rfl, hcw, hyes, hno⟩ := HDO.out e w4 hdo
        have y0 := hcw 0 _ x0
        have y1 := hcw 1 _ x1
        have y2 := hcw 2 _ x2
        clear hdo hcw x0 x1 x2 x3 x4 x5 HD
        by_cases c0 : kd = 0
        · subst c0
          cases ea with
          | false =>
            have HX := Lib.hid (hno (by simp))
            clear hyes hno n2 n3 n4
            obtain ⟨tA, tA2⟩ := HAL.out.2 rfl
            go_wp2_with fail
            refine ⟨HX, ?_⟩
            simp [intOf]
            have := HLT.out
            omega
          | true =>
            by_cases cC : C = 0
            · have HX := Lib.hid (hyes ⟨rfl, rfl, cC⟩)
              subst cC
              have hsz : mo.size + B.size ≤ 9223372036854775807 := by
                have h1 := HR.out.2.2.2.2.2.2.2.2.2.2.1
                have h2 := HBL.out
                have h3 := HLT.out
                have h4 := HN100.out
                omega
              clear hyes hno n2 n3 n4
              have tA := HAL.out.1 rfl
              go_wp2_with fail
              refine ⟨HX, ?_⟩
              simp [intOf]
              have := HLT.out
              omega
            · have HX := Lib.hid (hno (fun h => cC h.2.2))
              clear hyes hno n2 n3 n4
              have tA := HAL.out.1 rfl
              go_wp2_with fail
              refine ⟨HX, ?_⟩
              simp [intOf]
              have := HLT.out
              omega
        · have HX := Lib.hid (hno (fun h => c0 h.1))
          clear hyes hno
          go_wp2_with fail
          refine ⟨HX, ?_⟩
          simp [intOf]
          have := HLT.out
          omega
    · have hkk : k = n := by omega
      subst hkk
      have hki : ¬ (k : Int) < (k : Int) := by omega
      obtain ⟨hk1, hmk, hu1, hmu, hu16⟩ := HKU.out
      have hbw : Below w.heap.size w wr := by rw [HBS.out]; exact hbl
      have hM2 : M ≤ 10702 := by have := HN100.out; omega
      have HC1 := Lib.hid (crash_any O base M S wr hdk (by omega) Bk mk ck ks (hk1.below hbw) hmk Bu mu cu us (hu1.below hbw) hmu hu16)
      have H1 := Lib.hid (And.intro hdk (And.intro hM2 (And.intro hsu (And.intro hbl hmo))))
      clear hk1 hmk hu1 hmu hu16 hbw hdk hrd hap hOb hOq hfu hro hM hN hsu hmo hbl hM2
      go_wp2_with fail
      refine HC1.out.mono ?_
      rintro e w2c ⟨da, s1, s2, l1, T1, hl, hn1, hn2, hl1, hl2, rfl, _, hci, hst, hdT, hb2⟩
      have hM1 : M + l1.length ≤ 32106 := by
        have h3 := Lib.compact_length_le (srt (srt s1 ++ s2))
        rw [← hl] at h3
        simp only [srt, List.length_mergeSort, List.length_append] at h3
        have := H1.out.2.1
        omega
      obtain ⟨hT1, hT2, m, hm1, hm2, hm3⟩ := H1.out.2.2.1.crash hn1 hl hci H1.out.1.le_all
      have HRA := Lib.hid (show Calls Try.prog 15 #[.pointer (some ⟨da, 0, none⟩), .string xS] w2c (ReadQ w2c 0 ((byN b ++ byN mo).take m)) from by
        have hr := read_any _ da _ T1 xS w2c hdT xS_key (by omega)
        unfold ReadP readC at hr
        rw [hT1, if_neg (by simp), if_neg hT2, hm3] at hr
        exact hr)
      have HB7 := Lib.hid (show Below base w w2c from H1.out.2.2.2.1.trans (hb2.mono (by have := H1.out.2.2.2.1.size; have := HBS.out; omega)))
      have HMM := Lib.hid (And.intro hm1 hm2)
      clear hl hn1 hn2 hl1 hl2 hci hst hdT hb2 hM1 hT1 hT2 hm1 hm2 hm3 HC1
      go_wp2_with fail
      refine HRA.out.mono ?_
      rintro e w8 ⟨Aa, na, ca, rfl, hba, hra⟩
      obtain ⟨hna, hsa⟩ := hra rfl
      have hnm : na = m := by
        rw [hna, List.length_take, List.length_append]
        have := HMM.out
        omega
      have hmm := HMM.out
      rw [byN_length, byN_length] at hmm
      have HSA := Lib.hid (And.intro hna (And.intro hsa hnm))
      have HB8 := Lib.hid (show Below base w w8 ∧ base ≤ w8.heap.size from ⟨HB7.out.trans (hba.mono (by have := HB7.out.size; have := HBS.out; omega)), by have := HB7.out.size; have := hba.size; have := HBS.out; omega⟩)
      have hmz2 : mo.size ≤ 10000 := by have := H1.out.2.2.2.2; have := HN100.out; omega
      have HSM := Lib.hid (show ¬ 9223372036854775807 < b.size + mo.size by have := HB500.out; omega)
      have HX := Lib.hid (show na ≤ (b ++ mo).size from by rw [ByteArray.size_append]; omega)
      have hx1 : ¬ (na : Int) < (nb : Int) := by have := HNB.out; omega
      have hx0 : ¬ na < nb := by omega
      obtain ⟨zi, hzi⟩ : ∃ zi : Int, (mo.size : Int) = zi := ⟨_, rfl⟩
      have hx2 : ¬ ((nb : Int) + zi) < (na : Int) := by have := HNB.out; omega
      have hx3 : wrap64 ((nb : Int) + zi) = (nb : Int) + zi := sum_in (by have := HB500.out; have := HNB.out; omega) (by omega) (by omega)
      clear hra hba hna hsa hnm hmm hmz2 HRA
      go_wp2_with fail
      try clear HO
      try clear HKU
      try clear HN
      try clear HFU
      try clear HN100
      try clear HB500
      try clear HAP
      try clear HSY
      try clear HSN
      try clear HFS
      try clear HRN
      try clear HY
      try clear HB2
      try clear HB3
      try clear HB4
      try clear HSU
      try clear HA1
      try clear HCV
      try clear HC1
      try clear H1
      try clear HB7
      try clear HMM
      try clear hnb
      try clear hzi
      try clear hx1
      try clear hx2
      try clear hx3
      try clear hx0
      try clear hki
      try clear hd5
      try clear hd100
      try clear hwf
      try clear hcv
      try clear hbs
      refine Rg.wp_region_invG (R := fun sl v w => match sl with
          | 157 => v = .bool true
          | 158 => v = .bool true
          | 159 => v = .slice Aa na ca
          | 160 => v = .string (txt ((byN b ++ byN mo).take m))
          | 161 => v = .string b
          | 162 => v = .string mo
          | 163 => v = .string (b ++ mo)
          | 164 => v = .slice Aa na ca
          | 165 => v = .int .i64 (na : Int)
          | 166 => v = .string ((b ++ mo).extract 0 na)
          | 167 => v = .bool true
          | 168 => v = .bool true
          | _ => True) (fun a w => True) 12 [157, 158, 159, 160, 161, 162, 163, 164, 165, 166, 167, 168] 169 [false, false, false, false, false, false, false, false, false, false, false, false, false, false, false, false, false, false, false, false, false, false, false, false, false, false, false, false, false, false, false, false, false, false, false, false, false, false, false, false, false, false, false, false, false, false, false, false, false, false, false, false, false, false, false, false, false, false, false, false, false, false, false, false, false, false, false, false, false, false, false, false, false, false, false, false, false, false, false, false, false, false, false, false, false, false, false, false, false, false, false, false, false, false, false, false, false, false, false, false, false, false, false, false, false, false, false, false, false, false, false, false, false, false, false, false, false, false, false, false, false, false, false, false, false, false, false, false, false, false, false, false, false, false, false, false, false, false, false, false, false, false, false, false, false, false, false, false, false, false, false, false, false, false, false, false, false, true, true, true, true, true, true, true, true, true, true, true, true] (by kernel_rfl) rfl (by kernel_rfl) (by kernel_rfl) (by kernel_rfl) (by kernel_rfl) (Nat.le_of_ble_eq_true (by kernel_rfl)) (by kernel_rfl) (by kernel_rfl) ?mono ?g0 ?good ?done
      case mono =>
        refine List.forall_mem_cons.2 ⟨fun _ _ _ _ _ h => h, ?_⟩
        refine List.forall_mem_cons.2 ⟨fun _ _ _ _ _ h => h, ?_⟩
        refine List.forall_mem_cons.2 ⟨fun _ _ _ _ _ h => h, ?_⟩
        refine List.forall_mem_cons.2 ⟨fun _ _ _ _ _ h => h, ?_⟩
        refine List.forall_mem_cons.2 ⟨fun _ _ _ _ _ h => h, ?_⟩
        refine List.forall_mem_cons.2 ⟨fun _ _ _ _ _ h => h, ?_⟩
        refine List.forall_mem_cons.2 ⟨fun _ _ _ _ _ h => h, ?_⟩
        refine List.forall_mem_cons.2 ⟨fun _ _ _ _ _ h => h, ?_⟩
        refine List.forall_mem_cons.2 ⟨fun _ _ _ _ _ h => h, ?_⟩
        refine List.forall_mem_cons.2 ⟨fun _ _ _ _ _ h => h, ?_⟩
        refine List.forall_mem_cons.2 ⟨fun _ _ _ _ _ h => h, ?_⟩
        refine List.forall_mem_cons.2 ⟨fun _ _ _ _ _ h => h, ?_⟩
        exact fun _ h => absurd h (by simp)
      case g0 => exact trivial
      case good =>
        refine Rg.goodG_cons ?_ ?_
        · intro ac w' cx hg hn
          refine .inl ⟨(Rg.wanted_none rfl), fun K hK => ?_⟩
          go_simp
          refine (awake13 w').mono ?_
          rintro y w5 ⟨rfl, hb5⟩
          exact hK _ _ hb5 (fun t ht => by injection ht with ht; subst ht; exact rfl) trivial
        refine Rg.goodG_cons ?_ ?_
        · intro ac w' cx hg hn
          obtain ⟨v157, e157, r157⟩ := hn 157 (Rg.mem_of (by kernel_rfl))
          obtain rfl : v157 = .bool true := r157
          refine .inl ⟨(Rg.wanted_none rfl), fun K hK => ?_⟩
          go_simp
          exact hK _ _ (Below.refl _ _) (fun t ht => by injection ht with ht; subst ht; exact rfl) trivial
        refine Rg.goodG_cons ?_ ?_
        · intro ac w' cx hg hn
          have e19 := cx.at_ 19 (by kernel_rfl) rfl
          obtain ⟨v158, e158, r158⟩ := hn 158 (Rg.mem_of (by kernel_rfl))
          obtain rfl : v158 = .bool true := r158
          refine .inl ⟨((Rg.wanted_some (t := 158) rfl (by kernel_rfl) e158).trans rfl), fun K hK => ?_⟩
          go_simp
          exact hK _ _ (Below.refl _ _) (fun t ht => by injection ht with ht; subst ht; exact rfl) trivial
        refine Rg.goodG_cons ?_ ?_
        · intro ac w' cx hg hn
          obtain ⟨v159, e159, r159⟩ := hn 159 (Rg.mem_of (by kernel_rfl))
          obtain rfl : v159 = .slice Aa na ca := r159
          obtain ⟨v158, e158, r158⟩ := hn 158 (Rg.mem_of (by kernel_rfl))
          obtain rfl : v158 = .bool true := r158
          refine .inl ⟨((Rg.wanted_some (t := 158) rfl (by kernel_rfl) e158).trans rfl), fun K hK => ?_⟩
          have cva := sl_text (HSA.out.2.1.kept (Tk.Kept.of_below cx.bel)) HSA.out.1
          go_simp
          exact hK _ _ (Below.refl _ _) (fun t ht => by injection ht with ht; subst ht; exact rfl) trivial
        refine Rg.goodG_cons ?_ ?_
        · intro ac w' cx hg hn
          have e0 := cx.at_ 0 (by kernel_rfl) rfl
          obtain ⟨v158, e158, r158⟩ := hn 158 (Rg.mem_of (by kernel_rfl))
          obtain rfl : v158 = .bool true := r158
          refine .inl ⟨((Rg.wanted_some (t := 158) rfl (by kernel_rfl) e158).trans rfl), fun K hK => ?_⟩
          go_simp
          exact hK _ _ (Below.refl _ _) (fun t ht => by injection ht with ht; subst ht; exact rfl) trivial
        refine Rg.goodG_cons ?_ ?_
        · intro ac w' cx hg hn
          have e13 := cx.at_ 13 (by kernel_rfl) rfl
          obtain ⟨v158, e158, r158⟩ := hn 158 (Rg.mem_of (by kernel_rfl))
          obtain rfl : v158 = .bool true := r158
          refine .inl ⟨((Rg.wanted_some (t := 158) rfl (by kernel_rfl) e158).trans rfl), fun K hK => ?_⟩
          go_simp
          exact hK _ _ (Below.refl _ _) (fun t ht => by injection ht with ht; subst ht; exact rfl) trivial
        refine Rg.goodG_cons ?_ ?_
        · intro ac w' cx hg hn
          obtain ⟨v161, e161, r161⟩ := hn 161 (Rg.mem_of (by kernel_rfl))
          obtain rfl : v161 = .string b := r161
          obtain ⟨v162, e162, r162⟩ := hn 162 (Rg.mem_of (by kernel_rfl))
          obtain rfl : v162 = .string mo := r162
          obtain ⟨v158, e158, r158⟩ := hn 158 (Rg.mem_of (by kernel_rfl))
          obtain rfl : v158 = .bool true := r158
          refine .inl ⟨((Rg.wanted_some (t := 158) rfl (by kernel_rfl) e158).trans rfl), fun K hK => ?_⟩
          have hsm2 : ¬ 9223372036854775807 < b.size + mo.size := HSM.out
          go_simp
          exact hK _ _ (Below.refl _ _) (fun t ht => by injection ht with ht; subst ht; exact rfl) trivial
        refine Rg.goodG_cons ?_ ?_
        · intro ac w' cx hg hn
          have e19 := cx.at_ 19 (by kernel_rfl) rfl
          obtain ⟨v158, e158, r158⟩ := hn 158 (Rg.mem_of (by kernel_rfl))
          obtain rfl : v158 = .bool true := r158
          refine .inl ⟨((Rg.wanted_some (t := 158) rfl (by kernel_rfl) e158).trans rfl), fun K hK => ?_⟩
          go_simp
          exact hK _ _ (Below.refl _ _) (fun t ht => by injection ht with ht; subst ht; exact rfl) trivial
        refine Rg.goodG_cons ?_ ?_
        · intro ac w' cx hg hn
          obtain ⟨v164, e164, r164⟩ := hn 164 (Rg.mem_of (by kernel_rfl))
          obtain rfl : v164 = .slice Aa na ca := r164
          obtain ⟨v158, e158, r158⟩ := hn 158 (Rg.mem_of (by kernel_rfl))
          obtain rfl : v158 = .bool true := r158
          refine .inl ⟨((Rg.wanted_some (t := 158) rfl (by kernel_rfl) e158).trans rfl), fun K hK => ?_⟩
          go_simp
          exact hK _ _ (Below.refl _ _) (fun t ht => by injection ht with ht; subst ht; exact rfl) trivial
        refine Rg.goodG_cons ?_ ?_
        · intro ac w' cx hg hn
          obtain ⟨v163, e163, r163⟩ := hn 163 (Rg.mem_of (by kernel_rfl))
          obtain rfl : v163 = .string (b ++ mo) := r163
          obtain ⟨v165, e165, r165⟩ := hn 165 (Rg.mem_of (by kernel_rfl))
          obtain rfl : v165 = .int .i64 (na : Int) := r165
          obtain ⟨v158, e158, r158⟩ := hn 158 (Rg.mem_of (by kernel_rfl))
          obtain rfl : v158 = .bool true := r158
          refine .inl ⟨((Rg.wanted_some (t := 158) rfl (by kernel_rfl) e158).trans rfl), fun K hK => ?_⟩
          have hle : (na : Int) ≤ (b.size : Int) + (mo.size : Int) := by have := HX.out; rw [ByteArray.size_append] at this; omega
          go_simp
          exact hK _ _ (Below.refl _ _) (fun t ht => by injection ht with ht; subst ht; exact rfl) trivial
        refine Rg.goodG_cons ?_ ?_
        · intro ac w' cx hg hn
          obtain ⟨v160, e160, r160⟩ := hn 160 (Rg.mem_of (by kernel_rfl))
          obtain rfl : v160 = .string (txt ((byN b ++ byN mo).take m)) := r160
          obtain ⟨v166, e166, r166⟩ := hn 166 (Rg.mem_of (by kernel_rfl))
          obtain rfl : v166 = .string ((b ++ mo).extract 0 na) := r166
          obtain ⟨v158, e158, r158⟩ := hn 158 (Rg.mem_of (by kernel_rfl))
          obtain rfl : v158 = .bool true := r158
          refine .inl ⟨((Rg.wanted_some (t := 158) rfl (by kernel_rfl) e158).trans rfl), fun K hK => ?_⟩
          have hss : ((txt ((byN b ++ byN mo).take m)).toList == ((b ++ mo).extract 0 na).toList) = true := by rw [txt_take, HSA.out.2.2]; simp
          go_simp
          exact hK _ _ (Below.refl _ _) (fun t ht => by injection ht with ht; subst ht; exact rfl) trivial
        refine Rg.goodG_cons ?_ ?_
        · intro ac w' cx hg hn
          obtain ⟨v158, e158, r158⟩ := hn 158 (Rg.mem_of (by kernel_rfl))
          obtain rfl : v158 = .bool true := r158
          obtain ⟨v167, e167, r167⟩ := hn 167 (Rg.mem_of (by kernel_rfl))
          obtain rfl : v167 = .bool true := r167
          refine .inl ⟨(Rg.wanted_none rfl), fun K hK => ?_⟩
          go_simp
          exact hK _ _ (Below.refl _ _) (fun t ht => by injection ht with ht; subst ht; exact rfl) trivial
        exact Rg.goodG_nil
      case done =>
        intro u w3 hb3 hr _
        have e168 : u 168 = .bool true := hr 168 (by simp)
        simp only [Rg.fillL_cons, Rg.fillL_nil, if_true, if_false, Bool.false_eq_true, e168]
        change wpList _ _ _ [_] _ _
        have HX3 := Lib.hid (show Below base w w3 from HB8.out.1.trans (hb3.mono HB8.out.2))
        clear hr hb3 e168
        go_wp2_with fail
        go_ret
        exact ⟨rfl, HX3.out⟩
end Go.Proofs.Ytamhgbkdljggbaa.Dk
