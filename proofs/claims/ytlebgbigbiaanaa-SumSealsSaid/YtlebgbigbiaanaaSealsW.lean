/- The law SumSeals' walk: for all slices of slices of bytes, every two uint16 and every byte it returns true; of what was in memory nothing turns. -/
import Derived.Test.YtlebgbigbiaanaaCheckA
namespace Go.Proofs.Ytlebgbigbiaanaa
open Go.RowKit Go.Sort
set_option linter.unusedVariables false
attribute [local go_sem ↓] Go.wp_at_zero Go.wp_at_succ

theorem Try.infoInt : (Try.prog.info? 3).map (fun i => (i.zero, i.size, i.bytes)) = some (some (.int .i64 0), 1, 8) := by kernel_rfl
/-- rows of two types are two -/
theorem rows_apart {w : World} {b1 b2 : Nat} {e1 e2 : TypeId} {s1 s2 n1 n2 : Nat} {v1 v2 : Value} {x1 x2 : List Value} (h1 : w.ownsRow b1 e1 s1 v1 n1 x1) (h2 : w.ownsRow b2 e2 s2 v2 n2 x2) (hne : e1 ≠ e2) : v1.ownBlock = none ∨ v1.ownBlock ≠ v2.ownBlock := by
  rcases h1.2 with ⟨rfl, _⟩ | ⟨g, c, cur, rfl, _, hg, _⟩
  · exact .inl rfl
  · refine .inr fun e => ?_
    rcases h2.2 with ⟨rfl, _⟩ | ⟨g', c', cur', rfl, _, hg', _⟩
    · simp [Value.ownBlock] at e
    · have : g = g' := by simpa [Value.ownBlock] using e
      subst this
      rw [hg] at hg'
      injection hg' with q
      injection q with _ q2
      exact hne q2
def endsV (ls : List (List Nat)) (k : Nat) : List Value := (List.range k).map fun j => .int .i64 ((endL ls (j + 1) : Nat) : Int)
theorem endsV_succ (ls : List (List Nat)) (k : Nat) : endsV ls (k + 1) = endsV ls k ++ [.int .i64 ((endL ls (k + 1) : Nat) : Int)] := by
  unfold endsV
  rw [List.range_succ, List.map_append]
  rfl
theorem endsV_length (ls : List (List Nat)) (k : Nat) : (endsV ls k).length = k := by unfold endsV; simp
theorem endsV_at {ls : List (List Nat)} {k j : Nat} (h : j < k) : (endsV ls k)[j]? = some (.int .i64 ((endL ls (j + 1) : Nat) : Int)) := by unfold endsV; simp [h]

set_option maxRecDepth 100000 in
theorem seals_none (P : Option Addr) (L c cut ix tn : Nat) (w : World) (h : L = 0) :
    Calls Try.prog 5 #[.slice P L c, .int .u16 (cut : Int), .int .u16 (ix : Int), .int .u8 (tn : Int)] w fun e w' => e = .returned (.bool true) ∧ Below w.heap.size w w' := by
  subst h
  go_enter Try.func5, Try.ntmps5
  go_wp2_with fail
  refine (awake03 _).mono ?_
  rintro e w3 ⟨rfl, hb3⟩
  have HB := Lib.hid (Gr.step (Gr.alloc (Gr.refl w) _) hb3)
  clear hb3
  go_wp2_with fail
  go_ret
  exact ⟨rfl, HB.out⟩
set_option maxRecDepth 100000 in
theorem seals_great (P : Option Addr) (L c cut ix tn : Nat) (w : World) (h : 20 < L) (hL : L ≤ 9223372036854775807) :
    Calls Try.prog 5 #[.slice P L c, .int .u16 (cut : Int), .int .u16 (ix : Int), .int .u8 (tn : Int)] w fun e w' => e = .returned (.bool true) ∧ Below w.heap.size w w' := by
  have h0 : ((L : Int) == 0) = false := beq_eq_false_iff_ne.2 (by omega)
  have hi : (20 : Int) < (L : Int) := by omega
  go_enter Try.func5, Try.ntmps5
  go_wp2_with fail
  refine (awake03 _).mono ?_
  rintro e w3 ⟨rfl, hb3⟩
  have HB := Lib.hid (Gr.step (Gr.alloc (Gr.refl w) _) hb3)
  clear hb3
  go_wp2_with fail
  go_ret
  exact ⟨rfl, HB.out⟩

set_option maxHeartbeats 4000000 in
set_option maxRecDepth 100000 in
theorem seals_some (P : Option Addr) (L c cut ix tn : Nat) (ls : List (List Nat)) (w : World) (hS : Ls w P ls) (hLL : L = ls.length) (h1 : 0 < L) (h20 : L ≤ 20) (hcut : cut ≤ 65535) (hix : ix ≤ 65535) (htn : tn ≤ 255) :
    Calls Try.prog 5 #[.slice P L c, .int .u16 (cut : Int), .int .u16 (ix : Int), .int .u8 (tn : Int)] w fun e w' => e = .returned (.bool true) ∧ Below w.heap.size w w' := by
  have HL := Lib.hid hS
  have HLL := Lib.hid hLL
  have h0 : ((L : Int) == 0) = false := beq_eq_false_iff_ne.2 (by omega)
  have h20i : ¬ (20 : Int) < (L : Int) := by omega
  obtain ⟨iI, hiI, hzI0, hzI1, hzI2⟩ := info_parts Try.infoInt
  have HI := Lib.hid (And.intro hiI (And.intro hzI0 (And.intro hzI1 hzI2)))
  clear hS hLL hiI hzI0 hzI1 hzI2
  go_enter Try.func5, Try.ntmps5
  go_wp2_with fail
  obtain ⟨w0, hw0⟩ : ∃ W, w.alloc (.cells #[.slice P L c] 34) = W := ⟨_, rfl⟩
  have HW0 := Lib.hid (show Gr w w0 by rw [← hw0]; exact Gr.alloc (Gr.refl w) _)
  have HBX := Lib.hid (show w0.cell? ⟨w.heap.size, 0, none⟩ = some (.slice P L c) by rw [← hw0]; simp [go_sem])
  rw [hw0]
  clear hw0
  have h8 : ∀ l ∈ ls, ∀ x ∈ l, x < 256 := fun l hl x hx => HL.out.b8 x (List.mem_flatten.2 ⟨l, hl, hx⟩)
  have H8 := Lib.hid h8
  clear h8
  go_loopw [9, 10, 34] (fun v u i wr => ∃ k : Nat, k ≤ L ∧ i = .int .i64 ((k : Nat) : Int) ∧ (∀ j l, j < k → ls[j]? = some l → l.length ≤ 200) ∧ endL ls k ≤ 208 * k ∧
    wr.ownsRow w0.heap.size 5 1 v (endL ls k) (cellsB (catF (ls.take k))) ∧ wr.ownsRow w0.heap.size 3 1 u k (endsV ls k) ∧ Gr w0 wr) (fun _ _ i _ => L - (intOf i).toNat)
  case atStart => exact ⟨0, by omega, rfl, by omega, by rw [endL_zero]; omega, World.ownsRow_nil _ _ _ _, World.ownsRow_nil _ _ _ _, Gr.refl _⟩
  case round =>
    obtain ⟨k, hk, rfl, h200, hEk, hown, howe, hg⟩ := hrel
    have HO := Lib.hid hown
    have HE := Lib.hid howe
    have H200 := Lib.hid h200
    clear hown howe h200
    by_cases hlt : k < L
    · have hki : (k : Int) < (L : Int) := by omega
      have hkl : k < ls.length := by have := HLL.out; omega
      obtain ⟨b, off, rfl, hc⟩ := (HL.out.kept (HW0.out.kept.trans hg.kept)).some_ (by omega)
      obtain ⟨l, hl⟩ := getElem?_lt hkl
      obtain ⟨A, cA, q1, q2⟩ := hc k l hl
      have Q2 := Lib.hid q2
      have HSL := Lib.hid hl
      have HG := Lib.hid hg
      clear hc hl q2 hg
      by_cases hb2 : 200 < l.length
      · have hb2i : (200 : Int) < (l.length : Int) := by omega
        go_wp2_with fail
        refine (awake03 _).mono ?_
        rintro e w3 ⟨rfl, hb3⟩
        have HB := Lib.hid (Gr.step HW0.out (Gr.step HG.out hb3))
        clear hb3
        go_wp2_with fail
        go_ret
        exact ⟨rfl, HB.out⟩
      · have hb2i : (l.length : Int) ≤ 200 := by omega
        go_wp2_with fail
        refine (seal_any A l.length cA l wr Q2.out rfl (by omega)).mono ?_
        rintro e w1 ⟨A1, c1, rfl, hS1, hg1⟩
        have hl8 : 8 + l.length = (sealF l).length := (sealF_len l).symm
        have HO1 := Lib.hid (HO.out.kept (row := none) (Gr.grown_ hg1) (by cases u9.ownBlock <;> simp))
        have HE1 := Lib.hid (HE.out.kept (row := none) (Gr.grown_ hg1) (by cases u10.ownBlock <;> simp))
        have HS1 := Lib.hid hS1
        have HG1 := Lib.hid (Gr.step HG.out hg1)
        have HL8 := Lib.hid hl8
        clear hS1 hg1 hl8
        have hES := endL_succ HSL.out
        have hcs := catF_succ HSL.out
        have HES := Lib.hid hES
        go_wp2_with (at_builtin; refine wpList_append_bt rfl _ _ rfl w0.heap.size u9 (endL ls k) (catF (ls.take k)) rfl ?c0 A1 (8 + l.length) c1 (sealF l) rfl HL8.out ?c1 ?c2 ?c3 ?_)
        case c0 => exact HO1.out
        case c1 => exact HS1.out
        case c2 => omega
        case c3 => exact HG1.out.size
        intro v' w2 hown hgrow
        rw [← hcs, ← hES] at hown
        have HG2 := Lib.hid (show Gr w0 w2 from below_own HG1.out HG1.out.size HO1.out hgrow)
        have HE2 := Lib.hid (HE1.out.kept hgrow (rows_apart HE1.out HO1.out (by decide)))
        have hb8k : ∀ x ∈ catF (ls.take (k + 1)), x < 256 := catF_b8 fun l hl => H8.out l (List.mem_of_mem_take hl)
        obtain ⟨hnn, A2, c2, rfl, hS2⟩ := own_sl hown hb8k (show (catF (ls.take (k + 1))).length ≤ _ by have : (catF (ls.take (k + 1))).length = endL ls (k + 1) := rfl; omega)
        obtain ⟨q, hq⟩ : ∃ q, endL ls (k + 1) = q := ⟨_, rfl⟩
        have HQ := Lib.hid hq
        have hq2 : q ≤ 208 * (k + 1) := by omega
        rw [hq] at hown ⊢
        have HO2 := Lib.hid hown
        have HE3 := Lib.hid (HE2.out.alloc (.cells #[.int .i64 (q : Int)] 3))
        have HO3 := Lib.hid (hown.alloc (.cells #[.int .i64 (q : Int)] 3))
        clear hown hgrow hb8k hnn hS2 hq hES hcs
        go_wp2_with (at_builtin; refine wpList_append_own _ rfl _ _ 39 rfl w0.heap.size 3 iI (.int .i64 0) 1 8 Try.underlying39 HI.out.1 HI.out.2.1 HI.out.2.2.1 HI.out.2.2.2 rfl (by decide) u10 k (endsV ls k) rfl HE3.out ⟨w2.heap.size, 0, none⟩ 1 1 [.int .i64 (q : Int)] rfl rfl ?_ ?_ ?_ ?_ ?_ ?_)
        · intro j u hu
          have hj : j = 0 := by
            obtain ⟨h, _⟩ := List.getElem?_eq_some_iff.1 hu
            simpa using h
          subst hj
          have : u = .int .i64 (q : Int) := by simpa using hu.symm
          subst this
          simp [go_sem]
        · simp [Value.oneCell']
        · unfold maxLen; omega
        · omega
        · have := HG2.out.size; simp; omega
        intro v' w4 hown' hgrow _
        have HG4 := Lib.hid (show Gr w0 w4 from below_own (Gr.alloc HG2.out _) (by have := HG2.out.size; simp; omega) HE3.out hgrow)
        have HO4 := Lib.hid (HO3.out.kept hgrow (rows_apart HO3.out HE3.out (by decide)))
        rw [← HQ.out, ← endsV_succ] at hown'
        have HE4 := Lib.hid hown'
        clear hown' hgrow
        go_wp2_with fail
        go_roundw
        case rel =>
          refine ⟨k + 1, by omega, ret_val (by omega), fun j l' hj hl' => ?_, by rw [HQ.out]; exact hq2, by rw [HQ.out]; exact HO4.out, HE4.out, HG4.out⟩
          by_cases e : j = k
          · subst e
            rw [HSL.out] at hl'
            obtain rfl : l = l' := by simpa using hl'
            omega
          · exact H200.out j l' (by omega) hl'
        case measure => simp [intOf] <;> omega
    · obtain rfl : k = L := by omega
      have hki : ¬ ((k : Int) < (k : Int)) := by omega
      have hkl := HLL.out
      have hTK : catF (ls.take k) = catF ls := by rw [hkl, List.take_length]
      have hEN : endL ls k = (catF ls).length := by rw [hkl]; exact endL_all ls
      have hN0 : 0 < endL ls k := by
        have e1 := endL_lt (ls := ls) (k := 0) (by omega)
        have e2 := endL_le ls 1
        have e3 := endL_zero ls
        simp only [Nat.zero_add] at e1
        omega
      have hl32 : ∀ l ∈ ls, l.length < 4294967296 := fun l hl => by
        obtain ⟨j, hj, rfl⟩ := List.getElem_of_mem hl
        have := H200.out j _ (by omega) (List.getElem?_eq_getElem hj)
        omega
      have HL32 := Lib.hid hl32
      have hown := HO.out
      rw [hTK] at hown
      have F8 := Lib.hid (catF_b8 H8.out)
      obtain ⟨g, c9, rfl, hc9, hcm9, _, _, hBt⟩ := own_bt hown hEN F8.out (by omega) hN0
      have howe := HE.out
      rcases howe.2 with ⟨_, hz⟩ | ⟨ge, ce, cur, rfl, _, _, hce, hcme, _⟩
      · omega
      have HEC := Lib.hid (fun (W : World) (hW : Gr wr W) (j : Nat) (hj : j < k) => by
        have := howe.cells (g := ge) rfl j _ (endsV_at (ls := ls) hj)
        rw [addr_add, Nat.zero_add] at this
        exact (hW.kept _ _ this : W.cell? ⟨ge, j, none⟩ = some (.int .i64 ((endL ls (j + 1) : Nat) : Int))))
      obtain ⟨N, hN⟩ : ∃ N, endL ls k = N := ⟨_, rfl⟩
      have HFN := Lib.hid (show N = (catF ls).length by rw [← hN, hEN])
      have HS := Lib.hid (show Sl wr (some ⟨g, 0, none⟩) c9 (catF ls) from ⟨by omega, hcm9, fun e => by simp at e, hBt⟩)
      have HNN := Lib.hid hN
      rw [hN] at hc9 hN0 hEk ⊢
      have HGA := Lib.hid (Gr.step HW0.out hg)
      have HBA := Lib.hid (hg.kept _ _ HBX.out)
      have HLA := Lib.hid (HL.out.kept (Gr.step HW0.out hg).kept)
      obtain ⟨wA, hwA⟩ : ∃ W, W = wr := ⟨_, rfl⟩
      subst hwA
      obtain ⟨k0, hk0⟩ : ∃ i, cut % (N + 1) = i := ⟨_, rfl⟩
      have hk0N : k0 ≤ N := by rw [← hk0]; exact Nat.lt_succ_iff.1 (Nat.mod_lt _ (Nat.succ_pos _))
      have ek0 : (cut : Int) % ((N : Int) + 1) = (k0 : Int) := by rw [← hk0]; first | omega | (push_cast; rfl) | (rw [Int.natCast_emod]; rfl) | simp
      obtain ⟨p, hp⟩ : ∃ i, ix % N = i := ⟨_, rfl⟩
      have hpN : p < N := by rw [← hp]; exact Nat.mod_lt _ hN0
      have ep : (ix : Int) % (N : Int) = (p : Int) := by rw [← hp]; omega
      have hN1 : 1 ≤ (N : Int) := by omega
      have hNb : (N : Int) ≤ 4160 := by omega
      have hc9i : (N : Int) ≤ (c9 : Int) := by omega
      have hk0c : (k0 : Int) ≤ (c9 : Int) := by omega
      have hc90 : ¬ c9 = 0 := by omega
      clear hown howe hBt hN hk0 hp hg hTK hEN hl32 HO HE hkl
      go_wp2_with fail
      go_loopw [15] (fun i wr => ∃ n : Nat, n ≤ k ∧ i = .int .i64 ((n : Nat) : Int) ∧ endL ls n ≤ k0 ∧ Gr wA wr) (fun i _ => k - (intOf i).toNat)
      case atStart => exact ⟨0, by omega, rfl, by rw [endL_zero]; omega, Gr.refl _⟩
      case round =>
        obtain ⟨n, hn, rfl, hen, hg⟩ := hrel
        by_cases hgo : n < k ∧ endL ls (n + 1) ≤ k0
        · have hnk := hgo.1
          have qc := HEC.out wr hg n hnk
          obtain ⟨q, hq⟩ : ∃ q, endL ls (n + 1) = q := ⟨_, rfl⟩
          have hqk := hgo.2
          rw [hq] at qc hqk
          have hnki : (n : Int) < (k : Int) := by omega
          have hqki : (q : Int) ≤ (k0 : Int) := by omega
          have HQ := Lib.hid hq
          have HG := Lib.hid hg
          clear hq hgo hg
          go_wp2_with fail
          go_roundw
          case rel => exact ⟨n + 1, by omega, ret_val (by omega), by rw [HQ.out]; exact hqk, HG.out⟩
          case measure => simp [intOf] <;> omega
        · have HCUT := Lib.hid (cut_opens (ls := ls) (k0 := k0) (n := n) H8.out HL32.out (by have := HFN.out; omega) (by have := HLL.out; omega) hen (by
            have := HLL.out
            by_cases e : n < k
            · right
              have : ¬ endL ls (n + 1) ≤ k0 := fun h => hgo ⟨e, h⟩
              omega
            · left; omega))
          have HCALL := Lib.hid (cut_opens (ls := ls) (k0 := (catF ls).length) (n := k) H8.out HL32.out (Nat.le_refl _) (by have := HLL.out; omega) (by rw [HNN.out, HFN.out]; exact Nat.le_refl _) (.inl HLL.out))
          rw [List.take_length] at HCALL
          have HG := Lib.hid hg
          clear hg
          have qbx := HG.out.kept _ _ HBA.out
          have hpi : (p : Int) < (N : Int) := by omega
          by_cases hnk : n < k
          case' pos =>
            have qc := HEC.out wr HG.out n hnk
            obtain ⟨q, hq⟩ : ∃ q, endL ls (n + 1) = q := ⟨_, rfl⟩
            have hqk : ¬ q ≤ k0 := fun h => hgo ⟨hnk, by rw [hq]; exact h⟩
            rw [hq] at qc
            have hnki : (n : Int) < (k : Int) := by omega
            have hqki : ¬ (q : Int) ≤ (k0 : Int) := by omega
            clear hq hgo
            go_wp2_with fail
          case' neg =>
            have hnki : ¬ (n : Int) < (k : Int) := by omega
            have hnkd : decide (n < k) = false := by simp; omega
            clear hgo
            go_wp2_with fail
          all_goals
            refine (check_any (some ⟨g, 0, none⟩) P N c9 k k c w.heap.size (catF ls) ls wr (HS.out.kept HG.out.kept) HFN.out (by have := HFN.out; omega) (HLA.out.kept HG.out.kept) HLL.out qbx (Nat.le_refl _) (by have := HCALL.out.1; exact this) (by have := HCALL.out.2.1; exact this) (by have := HCALL.out.2.2; exact this)).mono ?_
            rintro e w1 ⟨rfl, hg1⟩
            have HG1 := Lib.hid (Gr.step HG.out hg1)
            have qbx1 := hg1.kept _ _ qbx
            clear hg1
            go_wp2_with fail
            refine (check_any (some ⟨g, 0, none⟩) P k0 c9 n k c w.heap.size ((catF ls).take k0) ls w1 ⟨by rw [List.length_take]; omega, hcm9, fun e => by simp at e, (HS.out.2.2.2.take k0).kept HG1.out.kept⟩ (by rw [List.length_take]; have := HFN.out; omega) (by rw [List.length_take]; omega) (HLA.out.kept HG1.out.kept) HLL.out qbx1 hn HCUT.out.1 HCUT.out.2.1 HCUT.out.2.2).mono ?_
            rintro e w2 ⟨rfl, hg2⟩
            have HG2 := Lib.hid (Gr.step HG1.out hg2)
            clear hg2 qbx qbx1
            go_wp2_with fail
            try rw [ep]
            go_loopw [17, 18] (fun i f wr => ∃ m : Nat, m < k ∧ i = .int .i64 ((m : Nat) : Int) ∧ f = .int .i64 ((endL ls m : Nat) : Int) ∧ endL ls m ≤ p ∧ Gr wA wr) (fun i _ _ => k - (intOf i).toNat)
            case atStart => exact ⟨0, h1, rfl, rfl, by rw [endL_zero]; omega, HG2.out⟩
            case round =>
              obtain ⟨m, hm, rfl, rfl, hem, hg⟩ := hrel
              have qc := HEC.out wr hg m hm
              obtain ⟨q, hq⟩ : ∃ q, endL ls (m + 1) = q := ⟨_, rfl⟩
              obtain ⟨f0, hf0⟩ : ∃ q, endL ls m = q := ⟨_, rfl⟩
              rw [hf0] at hem ⊢
              rw [hq] at qc
              have HQ := Lib.hid hq
              have HF0 := Lib.hid hf0
              have HG3 := Lib.hid hg
              have hmi : (m : Int) < (k : Int) := by omega
              have hfN : (f0 : Int) ≤ (N : Int) := by omega
              clear hq hf0 hg
              by_cases hgo : q ≤ p
              · have hgoi : (q : Int) ≤ (p : Int) := by omega
                have hm1 : m + 1 < k := by
                  by_cases e : m + 1 = k
                  · have := HQ.out
                    rw [e, HNN.out] at this
                    omega
                  · omega
                go_wp2_with fail
                go_roundw
                case rel => exact ⟨m + 1, hm1, ret_val (by omega), by rw [HQ.out], by rw [HQ.out]; exact hgo, HG3.out⟩
                case measure => simp [intOf] <;> omega
              · have hgoi : ¬ (q : Int) ≤ (p : Int) := by omega
                by_cases ht0 : tn = 0
                · subst ht0
                  go_wp2_with fail
                  refine (awake03 _).mono ?_
                  rintro e w3 ⟨rfl, hb3⟩
                  have HBB := Lib.hid (Gr.step HGA.out (Gr.step HG3.out hb3))
                  clear hb3
                  go_wp2_with fail
                  go_ret
                  exact ⟨rfl, HBB.out⟩
                · have ht0i : ((tn : Int) == 0) = false := beq_eq_false_iff_ne.2 (by omega)
                  by_cases hp4 : p < f0 + 4
                  · have hp4i : (p : Int) < (f0 : Int) + 4 := by omega
                    go_wp2_with fail
                    refine (awake03 _).mono ?_
                    rintro e w3 ⟨rfl, hb3⟩
                    have HBB := Lib.hid (Gr.step HGA.out (Gr.step HG3.out hb3))
                    clear hb3
                    go_wp2_with fail
                    go_ret
                    exact ⟨rfl, HBB.out⟩
                  · have hp4i : (f0 : Int) + 4 ≤ (p : Int) := by omega
                    have hpq : p < endL ls (m + 1) := by have := HQ.out; omega
                    obtain ⟨x, hx⟩ := getElem?_lt (show p < (catF ls).length by have := HFN.out; omega)
                    have hx8 : x < 256 := F8.out x (List.mem_of_getElem? hx)
                    have HX := Lib.hid hx
                    clear hx
                    go_wp2_with (at_builtin; refine wpList_append_bt rfl _ _ rfl wr.heap.size (.slice (some ⟨wr.heap.size, 0, none⟩) 0 0) 0 [] rfl (ownsRow_new wr) (some ⟨g, 0, none⟩) N c9 (catF ls) rfl HFN.out (HS.out.kept (HG3.out.alloc _).kept) ?_ ?_ ?_)
                    · have := HFN.out; omega
                    intro v' w4 hown hgrow
                    try simp only [Nat.zero_add, List.nil_append] at hown
                    have hg4 : Gr wr w4 := (Gr.alloc (Gr.refl wr) _).grown hgrow (by simp) (fun k hk => by simp [Value.ownBlock] at hk; omega)
                    obtain ⟨gB, cB, rfl, hcB, hcm, hgb, hgl, hB⟩ := own_bt hown HFN.out F8.out (by have := HFN.out; omega) (by omega)
                    have hfz := hown.frozenAt p
                    have hcell : w4.cell? ⟨gB, p, none⟩ = some (.int .u8 (x : Int)) := by
                      have := hown.cellAt p (by omega)
                      rw [this]
                      unfold cellsB
                      rw [List.getElem?_map, HX.out]
                      rfl
                    have HB := Lib.hid hB
                    clear hown hgrow hB qc
                    obtain ⟨y, hy⟩ : ∃ y, x ^^^ tn = y := ⟨_, rfl⟩
                    have hy8 : y < 256 := by rw [← hy]; exact xor_lt8 hx8 (by omega)
                    have hyx : y ≠ x := by rw [← hy]; exact xor_ne (by omega)
                    have e2 : bits .xor .u8 (x : Int) (tn : Int) = (y : Int) := by rw [u8_xor_nat x _ hx8 (by omega), hy]
                    have HYX := Lib.hid hyx
                    clear hy hyx
                    go_wp2_with fail
                    have hset : Bt (w4.setCell ⟨gB, p, none⟩ (.int .u8 (y : Int))) (some ⟨gB, 0, none⟩) ((catF ls).set p y) := HB.out.set_ (by have := HFN.out; omega) hy8 hcell
                    have hg5 : Gr wr (w4.setCell ⟨gB, p, none⟩ (.int .u8 (y : Int))) := Below.setCell hg4 hgb _
                    obtain ⟨w5, hw5⟩ : ∃ w5, w4.setCell ⟨gB, p, none⟩ (.int .u8 (y : Int)) = w5 := ⟨_, rfl⟩
                    rw [hw5] at hset hg5 ⊢
                    have HB5 := Lib.hid (show Sl w5 (some ⟨gB, 0, none⟩) cB ((catF ls).set p y) from ⟨by rw [List.length_set]; have := HFN.out; omega, hcm, fun e => by simp at e, hset⟩)
                    have HG5 := Lib.hid (Gr.step HG3.out hg5)
                    clear hset hw5 hfz hcell e2 hg5
                    refine (all_any (some ⟨gB, 0, none⟩) N cB ((catF ls).set p y) w5 HB5.out (by rw [List.length_set]; exact HFN.out) (by rw [List.length_set]; have := HFN.out; omega)).mono ?_
                    rintro e w6 ⟨K, P6, c6, er, hok6, rfl, hLs6, hg6, hend6⟩
                    have ht := turned_stops (ls := ls) (p := p) (i := m) (x := x) (y := y) H8.out HL32.out (by have := HLL.out; omega) (by rw [HF0.out]; omega) hpq HX.out hy8 HYX.out
                    have hKm : K = m := by
                      refine stop_uniq hok6 ?_ ht.1 (.inr ⟨ht.2.1, by rw [ht.2.2]; decide⟩)
                      rcases hend6 with ⟨h, _⟩ | ⟨h1, h2, h3⟩
                      · exact .inl h
                      · exact .inr ⟨h1, by rw [← h2]; exact h3⟩
                    have her : er = 8 := by
                      rw [hKm] at hend6
                      rcases hend6 with ⟨h, _⟩ | ⟨_, h2, _⟩
                      · have := ht.2.1; omega
                      · rw [h2, ht.2.2]
                    subst her
                    rw [hKm]
                    obtain ⟨pz, hpz⟩ : ∃ z, posF ((catF ls).set p y) m = z := ⟨_, rfl⟩
                    rw [hpz]
                    have HG6 := Lib.hid (Gr.step HG5.out hg6)
                    clear hok6 hLs6 hg6 hend6 ht hKm hpz
                    go_wp2_with fail
                    refine (awake03 _).mono ?_
                    rintro e w7 ⟨rfl, hb7⟩
                    have HBB := Lib.hid (Gr.step HGA.out (Gr.step HG6.out hb7))
                    clear hb7
                    go_wp2_with fail
                    go_ret
                    exact ⟨rfl, HBB.out⟩

theorem sumSeals_walk (a0 : Option Addr) (c0 : Nat) (ls : List (List Nat)) (a1 a2 a3 : Int) (w : World) (w0 : Ls w a0 ls) (w1 : (Lit.int .u16 a1).wf = true) (w2 : (Lit.int .u16 a2).wf = true) (w3 : (Lit.int .u8 a3).wf = true) :
    Calls Try.prog 5 #[.slice a0 ls.length c0, .int .u16 a1, .int .u16 a2, .int .u8 a3] w fun e w' => e = .returned (.bool true) ∧ Below w.heap.size w w' := by
  obtain ⟨b1, b2⟩ := bounds_u16 w1
  obtain ⟨b3, b4⟩ := bounds_u16 w2
  obtain ⟨b5, b6⟩ := bounds_u8 w3
  obtain ⟨p, rfl⟩ := Int.eq_ofNat_of_zero_le b1
  obtain ⟨q, rfl⟩ := Int.eq_ofNat_of_zero_le b3
  obtain ⟨m, rfl⟩ := Int.eq_ofNat_of_zero_le b5
  by_cases h0 : ls.length = 0
  · exact seals_none a0 ls.length c0 p q m w h0
  · by_cases h20 : 20 < ls.length
    · exact seals_great a0 ls.length c0 p q m w h20 w0.1
    · exact seals_some a0 ls.length c0 p q m ls w w0 rfl (by omega) (by omega) (by omega) (by omega) (by omega)
end Go.Proofs.Ytlebgbigbiaanaa
