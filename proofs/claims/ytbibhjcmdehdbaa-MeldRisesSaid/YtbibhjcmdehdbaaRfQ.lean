/- The document's Rise. -/
import Derived.Test.YtbibhjcmdehdbaaRfM
import Derived.Test.YtbibhjcmdehdbaaMuC
import Derived.Deep.RegionWith
import Derived.Deep.CutRange
namespace Go.Proofs.Ytbibhjcmdehdbaa
open Go.RowKit Go.Sort Go.Maps
set_option linter.unusedVariables false

/-- what Rise comes to, of any list -/
def RiseF : List HV → HV → Int → Prop
  | h0 :: n :: r, o, E => (anyK (h0 :: n :: r) = true ∧ o = zeroV ∧ E = 25) ∨ (anyK (h0 :: n :: r) = false ∧ RiseR (emptyV h0.s) h0 (n :: r) o E)
  | _, o, E => o = zeroV ∧ E = 30
theorem RiseF.unique {l : List HV} {o o' : HV} {E E' : Int} (h : RiseF l o E) (k : RiseF l o' E') : o = o' ∧ E = E' := by
  match l, h, k with
  | [], h, k => exact ⟨h.1.trans k.1.symm, h.2.trans k.2.symm⟩
  | [a], h, k => exact ⟨h.1.trans k.1.symm, h.2.trans k.2.symm⟩
  | h0 :: n :: r, h, k =>
    rcases h with ⟨a1, a2, a3⟩ | ⟨a1, a2⟩ <;> rcases k with ⟨b1, b2, b3⟩ | ⟨b1, b2⟩
    · exact ⟨a2.trans b2.symm, a3.trans b3.symm⟩
    · rw [a1] at b1; cases b1
    · rw [a1] at b1; cases b1
    · exact a2.unique b2
theorem RiseF.main {h0 : HV} {rest : List HV} {o : HV} {E : Int} (h : 1 ≤ rest.length) : RiseF (h0 :: rest) o E ↔ (anyK (h0 :: rest) = true ∧ o = zeroV ∧ E = 25) ∨ (anyK (h0 :: rest) = false ∧ RiseR (emptyV h0.s) h0 rest o E) := by
  cases rest with
  | nil => simp at h
  | cons n r => exact Iff.rfl
set_option maxHeartbeats 4000000 in
set_option maxRecDepth 100000 in
theorem refrise_h (b off c0 n : Nat) (h0 : HV) (rest : List HV) (w : World) (hn : n = rest.length + 1) (hcap : n ≤ c0) (h2 : 2 ≤ n) (h : Hl w (some ⟨b, off, none⟩) (h0 :: rest)) (ho : ∀ x ∈ h0 :: rest, Ok x) :
    Calls Try.prog 21 #[.slice (some ⟨b, off, none⟩) n c0] w (fun e w' => ∃ o E, RiseF (h0 :: rest) o E ∧ RetH w o E e w') := by
  have hcne : ¬ c0 = 1 := by omega
  have HN := Lib.hid hn
  have hn1 : (n : Int) ≤ 1000000 := by have := h.1; simp at this; omega
  have hn2 : (0 : Int) < n := by omega
  have hn3 : decide ((n : Int) < 2) = false := by simp; omega
  have hn4 : (1 : Int) ≤ n := by omega
  have hc1 : (n : Int) ≤ c0 := by omega
  have HO := Lib.hid ho
  have HH := Lib.hid h
  have HM2 := Lib.hid (show 1 ≤ rest.length by omega)
  have hlen := Lib.hid (show n = (h0 :: rest).length by simp; exact hn)
  clear hn ho h h2
  have hb0 := (Below.refl w.heap.size w).alloc (Nat.le_refl _) (.cells #[.int .i64 0, .int .i64 0, .int .i64 0, .int .u64 0, .int .u64 0, .int .i64 0, .slice none 0 0, .slice none 0 0] 25)
  have HX0 := Lib.hid (Box.new w (.int .i64 0) (.int .i64 0) (.int .i64 0) (.int .u64 0) (.int .u64 0) (.int .i64 0) (.slice none 0 0) (.slice none 0 0))
  have HB0 := Lib.hid hb0
  clear hb0
  go_enter Try.func21, Try.ntmps21
  go_wp2_with fail
  obtain ⟨g0, hg0⟩ : ∃ g, w.heap.size = g := ⟨_, rfl⟩
  rw [hg0] at HX0 ⊢
  have HG0 := Lib.hid hg0
  clear hg0
  generalize w.alloc (.cells #[.int .i64 0, .int .i64 0, .int .i64 0, .int .u64 0, .int .u64 0, .int .i64 0, .slice none 0 0, .slice none 0 0] 25) = w0 at *
  go_loopw [4] (fun i wr => ∃ k : Nat, k ≤ n ∧ i = .int .i64 k ∧ Hid (∀ x ∈ (h0 :: rest).take k, x.k = 0) ∧ w0 = wr) (fun i _ => n - (intOf i).toNat)
  case atStart => exact ⟨0, by omega, rfl, Lib.hid (by simp), rfl⟩
  case round =>
    obtain ⟨k, hk, rfl, HZ, hw0⟩ := hrel
    subst hw0
    by_cases hlt : k < n
    · have hki : (k : Int) < (n : Int) := by omega
      obtain ⟨x, hx⟩ := getElem?_lt (l := h0 :: rest) (k := k) (by have := hlen.out; omega)
      obtain ⟨A2, B2, c2, d2, ⟨q0, q1, q2, q3, q4, q5, q6, q7⟩, hA2, hB2⟩ := hl_cells (HH.out.below HB0.out) hx
      have hlq := block_lt_of_cell q0
      simp only at hlq
      have HXK := Lib.hid hx
      clear hA2 hB2 hx q1 q2 q3 q4 q5 q6 q7
      by_cases hk0 : x.k = 0
      · have hk1 : (x.k != 0) = false := by simpa using hk0
        have HK0 := Lib.hid hk0
        clear hk0
        go_wp2_with fail
        go_roundw
        case rel => exact ⟨k + 1, by omega, by go_num, Lib.hid (by rw [take_snoc _ k x HXK.out]; intro z hz; rcases List.mem_append.1 hz with hz | hz; · exact HZ.out z hz
                                                                   · rw [List.mem_singleton.1 hz]; exact HK0.out), (by first | exact rfl | exact True.intro)⟩
        case measure => simp [intOf]; omega
      · have hk1 : (x.k != 0) = true := by simpa using hk0
        have HK0 := Lib.hid hk0
        clear hk0
        have HE := Lib.hid (show ∃ o E', RiseF (h0 :: rest) o E' ∧ RetH w o E' (.returned (.tuple #[.agg #[.int .i64 0, .int .i64 0, .int .i64 0, .int .u64 0, .int .u64 0, .int .i64 0, .slice none 0 0, .slice none 0 0], .int .i64 25])) (set8 w0 g0 (.int .i64 0) (.int .i64 0) (.int .i64 0) (.int .u64 0) (.int .u64 0) (.int .i64 0) (.slice none 0 0) (.slice none 0 0)) from ⟨zeroV, 25, (RiseF.main HM2.out).2 (.inl ⟨anyK_yes (List.mem_of_getElem? HXK.out) HK0.out, rfl, rfl⟩), RetH.zero (below_set8 HB0.out (by have := HG0.out; omega) _ _ _ _ _ _ _ _)⟩)
        have HF := Lib.hid (HX0.out.put8 (.int .i64 0) (.int .i64 0) (.int .i64 0) (.int .u64 0) (.int .u64 0) (.int .i64 0) (.slice none 0 0) (.slice none 0 0))
        obtain ⟨z0, z1, z2, z3, z4, z5, z6, z7⟩ := HX0.out.cells
        obtain ⟨f0, f1, f2, f3, f4, f5, f6, f7⟩ := HX0.out.frozen
        have l0 := HX0.out.lt
        go_wp2_with fail
        clear z0 z1 z2 z3 z4 z5 z6 z7 f0 f1 f2 f3 f4 f5 f6 f7 l0
        generalize hW : ((((((((w0.setCell ⟨g0, 0, none⟩ (.int .i64 0)).setCell ⟨g0, 1, none⟩ (.int .i64 0)).setCell ⟨g0, 2, none⟩ (.int .i64 0)).setCell ⟨g0, 3, none⟩ (.int .u64 0)).setCell ⟨g0, 4, none⟩ (.int .u64 0)).setCell ⟨g0, 5, none⟩ (.int .i64 0)).setCell ⟨g0, 6, none⟩ (.slice none 0 0)).setCell ⟨g0, 7, none⟩ (.slice none 0 0)) = w9
        have hW' : (set8 w0 (g0) (.int .i64 0) (.int .i64 0) (.int .i64 0) (.int .u64 0) (.int .u64 0) (.int .i64 0) (.slice none 0 0) (.slice none 0 0)) = w9 := hW
        rw [hW'] at HE HF
        obtain ⟨z0, z1, z2, z3, z4, z5, z6, z7⟩ := HF.out.cells
        exact bodyPost_ret (v := .tuple #[.agg #[.int .i64 0, .int .i64 0, .int .i64 0, .int .u64 0, .int .u64 0, .int .i64 0, .slice none 0 0, .slice none 0 0], .int .i64 25]) (by simp [results, Try.results21, go_sem, z0, z1, z2, z3, z4, z5, z6, z7]) rfl HE.out
    · obtain rfl : k = n := by omega
      have hki : ¬ ((k : Int) < (k : Int)) := by omega
      have HK := Lib.hid (show anyK (h0 :: rest) = false from anyK_no (by have := HZ.out; rw [hlen.out, List.take_length] at this; exact this))
      clear HZ
      obtain ⟨A0, B0, a0c, b0c, ⟨q0, q1, q2, q3, q4, q5, q6, q7⟩, hA, hB⟩ := hl_cells (HH.out.below HB0.out) (j := 0) (x := h0) rfl
      simp only [Nat.zero_mul, Nat.add_zero] at q0 q1 q2 q3 q4 q5 q6 q7
      have hlq := block_lt_of_cell q0
      simp only at hlq
      clear hA hB
      go_upto_region 9 with fail
      clear q0 q1 q2 q3 q4 q5 q6 q7 hlq
      have hw : Below w0.heap.size w0 (w0.alloc (.cells #[.int .i64 0, .int .i64 h0.s, .int .i64 (-524288), .int .u64 0, .int .u64 0, .int .i64 0, .slice none 0 0, .slice none 0 0] 25)) := (Below.refl _ _).alloc (Nat.le_refl _) _
      have HX3 := Lib.hid (And.intro (HX0.out.below hw) (Box.new w0 (.int .i64 0) (.int .i64 h0.s) (.int .i64 (-524288)) (.int .u64 0) (.int .u64 0) (.int .i64 0) (.slice none 0 0) (.slice none 0 0)))
      have HB3 := Lib.hid (HB0.out.trans (hw.mono HB0.out.size))
      have HG1 := Lib.hid (show g0 < w0.heap.size from HX0.out.lt)
      clear hw HX0
      obtain ⟨g1, hg1⟩ : ∃ g, w0.heap.size = g := ⟨_, rfl⟩
      rw [hg1] at HX3 HG1 ⊢
      clear hg1
      generalize w0.alloc (.cells #[.int .i64 0, .int .i64 h0.s, .int .i64 (-524288), .int .u64 0, .int .u64 0, .int .i64 0, .slice none 0 0, .slice none 0 0] 25) = w3 at *
      obtain ⟨M, hM⟩ : ∃ M, k - 1 = M := ⟨_, rfl⟩
      have HM := Lib.hid (show M = rest.length by have := HN.out; omega)
      have hM1 : k = M + 1 := by omega
      have HM1 := Lib.hid hM1
      clear hM hM1
      have HR0 := Lib.hid (show RisRel w g0 g1 h0 rest 0 w3 from ⟨emptyV h0.s, h0, none, none, 0, 0, HX3.out, ⟨Bk.nil _ _, Bk.nil _ _⟩, ⟨fun a ha => (by cases ha), fun a ha => (by cases ha)⟩, ⟨.inl rfl, .inl rfl⟩, empty_ok (HO.out h0 (by simp)).s, ⟨rfl, fun o E hh => hh⟩, HB3.out⟩)
      clear HX3 HB3
      obtain ⟨N, hN⟩ : ∃ N, N = k := ⟨_, rfl⟩
      subst hN
      go_wp2_with fail
      go_loopw [6] (fun i wr => ∃ k kk : Nat, Hid (kk = k + 1) ∧ k ≤ M ∧ i = .int .i64 kk ∧ Hid (RisRel w g0 g1 h0 rest k wr)) (fun i _ => M + 1 - (intOf i).toNat)
      case atStart => exact ⟨0, 1, Lib.hid rfl, by omega, rfl, HR0⟩
      case round =>
        obtain ⟨k, kk, HKK, hk, rfl, HR⟩ := hrel
        clear HR0
        obtain ⟨x, p, A1, B1, c1, d1, hX, hA, hN, hNe, hO, hS, hB⟩ := HR.out
        have HXr := Lib.hid hX
        have HAr := Lib.hid hA
        have HNr := Lib.hid hN
        have HEr := Lib.hid hNe
        have HOr := Lib.hid hO
        have HPk := Lib.hid hS.1
        have HSr := Lib.hid hS.2
        have HBr := Lib.hid hB
        clear hX hA hN hNe hO hS hB HR
        obtain ⟨w4, hw4⟩ : ∃ W, W = wr := ⟨_, rfl⟩
        subst hw4
        by_cases hlt : k < M
        · have hkn : (kk : Int) < (N : Int) := by have := HKK.out; have := HM1.out; omega
          have hkm : (kk : Int) - 1 = (k : Int) := by have := HKK.out; omega
          have hkn2 : (k : Int) < (N : Int) := by have := HKK.out; have := HM1.out; omega
          have hwk : IntKind.i64.wrap (k : Int) = (k : Int) := by simp [IntKind.wrap, IntKind.signed, IntKind.bits] <;> (try split) <;> omega
          obtain ⟨y, hy⟩ := getElem?_lt (l := rest) (k := k) (by have := HM.out; omega)
          have HYk := Lib.hid (show (h0 :: rest)[k + 1]? = some y by simpa using hy)
          have HD := Lib.hid (drop_at' hy)
          have HOy := Lib.hid (HO.out y (by have := List.mem_of_getElem? hy; simp [this]))
          have HOp := Lib.hid (HO.out p (List.mem_of_getElem? HPk.out))
          obtain ⟨A2, B2, c2, d2, ⟨q0, q1, q2, q3, q4, q5, q6, q7⟩, hA2, hB2⟩ := hl_cells (HH.out.below HBr.out) HYk.out
          rw [← HKK.out] at q0 q1 q2 q3 q4 q5 q6 q7
          have hlq := block_lt_of_cell q0
          simp only at hlq
          have HA4 := Lib.hid (And.intro HAr.out (And.intro hA2 hB2))
          have HX4 := HXr
          have HB4 := HBr
          clear hA2 hB2 hy
          obtain ⟨A4, B4, c4, d4, ⟨r0, r1, r2, r3, r4, r5, r6, r7⟩, hA4, hB4⟩ := hl_cells (HH.out.below HB4.out) HPk.out
          have HC := Lib.hid (fun (W : World) (hW : Below w4.heap.size w4 W) => refsub_h y p A2 B2 A4 B4 c2 d2 c4 d4 W (HA4.out.2.1.below hW) (HA4.out.2.2.below hW) (hA4.below hW) (hB4.below hW) HOy.out HOp.out)
          have HCa := Lib.hid (fun (W : World) (hW : Below w4.heap.size w4 W) => (HC.out W hW).mono (fun e w' hr => show PostA w4 (SubR y p) e w' from by obtain ⟨x', y', ht, h⟩ := hr; exact postA hW ⟨x', y', ht, rfl, rfl⟩ h))
          have HCb := Lib.hid (fun (W : World) (hW : Below w4.heap.size w4 W) (hz : Box W w4.heap.size (.int .i64 0) (.int .i64 0) (.int .i64 0) (.int .u64 0) (.int .u64 0) (.int .i64 0) (.slice none 0 0) (.slice none 0 0)) => (HC.out W hW).mono (fun e w' hr => show PostB w4 (SubR y p) e w' from by obtain ⟨x', y', ht, h⟩ := hr; exact postB hW hz ⟨x', y', ht, rfl, rfl⟩ h))
          clear hA4 hB4
          go_upto_region 12 with fail
          go_cut [7, 8] from 39 to 51 (fun s7 s8 wx => RetCut w4 (SubR y p) s7 s8 wx)
          have hq0 : Below w4.heap.size w4 w4 := Below.refl _ _
          have hq1 : Below w4.heap.size w4 w4.drew := Below.drew (Below.refl _ _)
          have hq2 : Below w4.heap.size w4 (w4.alloc (.cells #[.int .i64 0, .int .i64 0, .int .i64 0, .int .u64 0, .int .u64 0, .int .i64 0, .slice none 0 0, .slice none 0 0] 25)) := (Below.refl _ _).alloc (Nat.le_refl _) _
          have hq3 : Below w4.heap.size w4 (w4.alloc (.cells #[.int .i64 0, .int .i64 0, .int .i64 0, .int .u64 0, .int .u64 0, .int .i64 0, .slice none 0 0, .slice none 0 0] 25)).drew := Below.drew hq2
          have hq4 : Below w4.heap.size w4 (w4.drew.alloc (.cells #[.int .i64 0, .int .i64 0, .int .i64 0, .int .u64 0, .int .u64 0, .int .i64 0, .slice none 0 0, .slice none 0 0] 25)) := hq1.alloc (Nat.le_refl _) _
          have hbz2 : Box (w4.alloc (.cells #[.int .i64 0, .int .i64 0, .int .i64 0, .int .u64 0, .int .u64 0, .int .i64 0, .slice none 0 0, .slice none 0 0] 25)) w4.heap.size (.int .i64 0) (.int .i64 0) (.int .i64 0) (.int .u64 0) (.int .u64 0) (.int .i64 0) (.slice none 0 0) (.slice none 0 0) := Box.new w4 (.int .i64 0) (.int .i64 0) (.int .i64 0) (.int .u64 0) (.int .u64 0) (.int .i64 0) (.slice none 0 0) (.slice none 0 0)
          have hbz3 : Box (w4.alloc (.cells #[.int .i64 0, .int .i64 0, .int .i64 0, .int .u64 0, .int .u64 0, .int .i64 0, .slice none 0 0, .slice none 0 0] 25)).drew w4.heap.size (.int .i64 0) (.int .i64 0) (.int .i64 0) (.int .u64 0) (.int .u64 0) (.int .i64 0) (.slice none 0 0) (.slice none 0 0) := hbz2
          have hbz4 : Box (w4.drew.alloc (.cells #[.int .i64 0, .int .i64 0, .int .i64 0, .int .u64 0, .int .u64 0, .int .i64 0, .slice none 0 0, .slice none 0 0] 25)) w4.heap.size (.int .i64 0) (.int .i64 0) (.int .i64 0) (.int .u64 0) (.int .u64 0) (.int .i64 0) (.slice none 0 0) (.slice none 0 0) := Box.new w4.drew (.int .i64 0) (.int .i64 0) (.int .i64 0) (.int .u64 0) (.int .u64 0) (.int .i64 0) (.slice none 0 0) (.slice none 0 0)
          have HQ := Lib.hid (And.intro hq0 (And.intro hq1 (And.intro hq2 (And.intro hq3 hq4))))
          have HBZ := Lib.hid (And.intro hbz2 (And.intro hbz3 hbz4))
          clear hq0 hq1 hq2 hq3 hq4 hbz2 hbz3 hbz4
          case first =>
            go_region_with (go_at_call 18; first
              | ((with_reducible refine (HCb.out _ ?q0 ?q1).mono ?_); (case q1 => with_reducible first | exact HBZ.out.1 | exact HBZ.out.2.1 | exact HBZ.out.2.2); (case q0 => with_reducible first | exact HQ.out.2.2.1 | exact HQ.out.2.2.2.1 | exact HQ.out.2.2.2.2); rintro e w5 ⟨r, E, A3, B3, c3, d3, rfl, hT, hA, hb, nA, hne, hz⟩; have HT := Lib.hid hT; have HR5 := Lib.hid (And.intro hA (And.intro hb nA)); have HZZ := Lib.hid (And.intro hne hz); obtain ⟨z0, z1, z2, z3, z4, z5, z6, z7⟩ := hz.cells; obtain ⟨f0, f1, f2, f3, f4, f5, f6, f7⟩ := hz.frozen; have lz := hz.lt; clear hT hA hb nA hne hz)
              | ((with_reducible refine (HCa.out _ ?q0).mono ?_); (case q0 => with_reducible first | exact HQ.out.1 | exact HQ.out.2.1); rintro e w5 ⟨r, E, A3, B3, c3, d3, rfl, hT, hA, hb, nA⟩; have HT := Lib.hid hT; have HR5 := Lib.hid (And.intro hA (And.intro hb nA)); clear hT hA hb nA)
              | fail)
            all_goals (go_wp2_with fail)
            all_goals go_meet
            all_goals first
              | (have _ := HZZ; with_reducible exact RetCut.beforeC HT.out HR5.out.1 HR5.out.2.1 HR5.out.2.2 HZZ.out.1 HZZ.out.2)
              | with_reducible exact RetCut.after HT.out HR5.out.1 HR5.out.2.1 HR5.out.2.2
              | (have _ := HZZ; with_reducible exact (RetCut.beforeC HT.out HR5.out.1 HR5.out.2.1 HR5.out.2.2 HZZ.out.1 HZZ.out.2).drew)
              | with_reducible exact (RetCut.after HT.out HR5.out.1 HR5.out.2.1 HR5.out.2.2).drew
              | trace_state
          case rest =>
            obtain ⟨g, r, E, A3, B3, c3, d3, rfl, rfl, hR, hg, hz, hA, hN, hb⟩ := hcut
            obtain ⟨wx, hwx⟩ : ∃ W, W = wc := ⟨_, rfl⟩
            subst hwx
            obtain ⟨x', y', htw, hr, hE⟩ := hR
            have HTw := Lib.hid htw
            have HrE := Lib.hid (And.intro hr hE)
            have HXc := Lib.hid (And.intro (HX4.out.1.below hb) (And.intro (HX4.out.2.below hb) hz))
            have HAc := Lib.hid (And.intro (And.intro (HA4.out.1.1.below hb) (HA4.out.1.2.below hb)) (And.intro (HA4.out.2.1.below hb) (HA4.out.2.2.below hb)))
            have HA3 := Lib.hid hA
            have HBc := Lib.hid (HB4.out.trans (hb.mono HB4.out.size))
            have HL4 := Lib.hid (And.intro HX4.out.1.lt (And.intro HX4.out.2.lt hg))
            have HQc := Lib.hid (And.intro (Kept.of_below hb _ _ q0) (And.intro (Kept.of_below hb _ _ q1) (And.intro (Kept.of_below hb _ _ q2) (And.intro (Kept.of_below hb _ _ q3) (And.intro (Kept.of_below hb _ _ q4) (And.intro (Kept.of_below hb _ _ q5) (And.intro (Kept.of_below hb _ _ q6) (Kept.of_below hb _ _ q7))))))))
            have HLq := Lib.hid hlq
            clear htw hr hE hz hA hN hb hg HX4 HB4 q0 q1 q2 q3 q4 q5 q6 q7 r0 r1 r2 r3 r4 r5 r6 r7 hlq HC HCa HCb
            by_cases h21 : E = 21
            · subst h21
              have HMore := Lib.hid (show MoreR y p y 0 from .all HTw.out HrE.out.2)
              have HOm := HOy
              obtain ⟨q0, q1, q2, q3, q4, q5, q6, q7⟩ := HQc.out
              have hlq := block_lt_of_cell q0
              simp only at hlq
              obtain ⟨z0, z1, z2, z3, z4, z5, z6, z7⟩ := HXc.out.2.2.cells
              obtain ⟨f0, f1, f2, f3, f4, f5, f6, f7⟩ := HXc.out.2.2.frozen
              have l3 := HXc.out.2.2.lt
              go_upto_region 17 with fail
              clear q0 q1 q2 q3 q4 q5 q6 q7 hlq z0 z1 z2 z3 z4 z5 z6 z7 f0 f1 f2 f3 f4 f5 f6 f7 l3
              have HXy := Lib.hid (And.intro (Box.off8 (g' := g) HXc.out.1 (by have := HL4.out; omega) (.int .i64 y.k) (.int .i64 y.s) (.int .i64 y.z) (.int .u64 y.zc) (.int .u64 y.ct) (.int .i64 y.sm) (.slice A2 y.P.length c2) (.slice B2 y.Q.length d2)) (And.intro (Box.off8 (g' := g) HXc.out.2.1 (by have := HL4.out; omega) (.int .i64 y.k) (.int .i64 y.s) (.int .i64 y.z) (.int .u64 y.zc) (.int .u64 y.ct) (.int .i64 y.sm) (.slice A2 y.P.length c2) (.slice B2 y.Q.length d2)) (HXc.out.2.2.put8 (.int .i64 y.k) (.int .i64 y.s) (.int .i64 y.z) (.int .u64 y.zc) (.int .u64 y.ct) (.int .i64 y.sm) (.slice A2 y.P.length c2) (.slice B2 y.Q.length d2))))
              have HAy := Lib.hid (And.intro (And.intro (Bk.set8n (g := g) HAc.out.1.1 (HA4.out.1.1.ne_lt' HL4.out.2.2) (.int .i64 y.k) (.int .i64 y.s) (.int .i64 y.z) (.int .u64 y.zc) (.int .u64 y.ct) (.int .i64 y.sm) (.slice A2 y.P.length c2) (.slice B2 y.Q.length d2)) (Bk.set8n (g := g) HAc.out.1.2 (HA4.out.1.2.ne_lt' HL4.out.2.2) (.int .i64 y.k) (.int .i64 y.s) (.int .i64 y.z) (.int .u64 y.zc) (.int .u64 y.ct) (.int .i64 y.sm) (.slice A2 y.P.length c2) (.slice B2 y.Q.length d2))) (And.intro (Bk.set8n (g := g) HAc.out.2.1 (HA4.out.2.1.ne_lt' HL4.out.2.2) (.int .i64 y.k) (.int .i64 y.s) (.int .i64 y.z) (.int .u64 y.zc) (.int .u64 y.ct) (.int .i64 y.sm) (.slice A2 y.P.length c2) (.slice B2 y.Q.length d2)) (Bk.set8n (g := g) HAc.out.2.2 (HA4.out.2.2.ne_lt' HL4.out.2.2) (.int .i64 y.k) (.int .i64 y.s) (.int .i64 y.z) (.int .u64 y.zc) (.int .u64 y.ct) (.int .i64 y.sm) (.slice A2 y.P.length c2) (.slice B2 y.Q.length d2))))
              have HBy := Lib.hid (below_set8 (g := g) HBc.out (by have := HL4.out; have := HG0.out; omega) (.int .i64 y.k) (.int .i64 y.s) (.int .i64 y.z) (.int .u64 y.zc) (.int .u64 y.ct) (.int .i64 y.sm) (.slice A2 y.P.length c2) (.slice B2 y.Q.length d2))
              generalize hW : ((((((((wx.setCell ⟨g, 0, none⟩ (.int .i64 y.k)).setCell ⟨g, 1, none⟩ (.int .i64 y.s)).setCell ⟨g, 2, none⟩ (.int .i64 y.z)).setCell ⟨g, 3, none⟩ (.int .u64 y.zc)).setCell ⟨g, 4, none⟩ (.int .u64 y.ct)).setCell ⟨g, 5, none⟩ (.int .i64 y.sm)).setCell ⟨g, 6, none⟩ (.slice A2 y.P.length c2)).setCell ⟨g, 7, none⟩ (.slice B2 y.Q.length d2)) = wy
              have hW' : set8 wx g (.int .i64 y.k) (.int .i64 y.s) (.int .i64 y.z) (.int .u64 y.zc) (.int .u64 y.ct) (.int .i64 y.sm) (.slice A2 y.P.length c2) (.slice B2 y.Q.length d2) = wy := hW
              rw [hW'] at HXy HAy HBy
              clear hW hW' HXc HAc HA3 HBc HQc HLq
              obtain ⟨x0, x1, x2, x3, x4, x5, x6, x7⟩ := HXy.out.2.1.cells
              have l1 := HXy.out.2.1.lt
              obtain ⟨z0, z1, z2, z3, z4, z5, z6, z7⟩ := HXy.out.2.2.cells
              have l3 := HXy.out.2.2.lt
              go_wp2_with fail
              clear x0 x1 x2 x3 x4 x5 x6 x7 z0 z1 z2 z3 z4 z5 z6 z7 l1 l3
              refine (refadd_h x y A1 B1 A2 B2 c1 d1 c2 d2 wy HAy.out.1.1 HAy.out.1.2 HAy.out.2.1 HAy.out.2.2 HOr.out HOm.out).mono ?_
              rintro e w5 ⟨p', q', htw, A5, B5, c5, d5, rfl, hA5, hB5, hb5, nA5, nB5⟩
              have HT := Lib.hid htw
              obtain ⟨v, hv⟩ : ∃ r, mAddO p' q' = r := ⟨_, rfl⟩
              obtain ⟨E2, hE2⟩ : ∃ E, mAddE p' q' = E := ⟨_, rfl⟩
              rw [hv] at hA5 hB5
              simp only [hvA, hv, hE2]
              have HRE := Lib.hid (And.intro hv hE2)
              have HS5 := Lib.hid (And.intro (nA5.ne HXy.out.1.lt) (And.intro (nA5.ne HXy.out.2.1.lt) (And.intro (nB5.ne HXy.out.1.lt) (nB5.ne HXy.out.2.1.lt))))
              have HN5 := Lib.hid (And.intro (nA5.mono HBy.out.size) (nB5.mono HBy.out.size))
              go_upto_region 18 with fail
              have hw5 : Below w5.heap.size w5 (w5.alloc (.cells #[.int .i64 v.k, .int .i64 v.s, .int .i64 v.z, .int .u64 v.zc, .int .u64 v.ct, .int .i64 v.sm, .slice A5 v.P.length c5, .slice B5 v.Q.length d5] 25)) := (Below.refl _ _).alloc (Nat.le_refl _) _
              obtain ⟨gn, hgn⟩ : ∃ g, w5.heap.size = g := ⟨_, rfl⟩
              have HGN := Lib.hid (And.intro (HXy.out.1.below hb5).lt (HXy.out.2.1.below hb5).lt)
              have HXn := Lib.hid (Box.newAt w5 gn hgn (.int .i64 v.k) (.int .i64 v.s) (.int .i64 v.z) (.int .u64 v.zc) (.int .u64 v.ct) (.int .i64 v.sm) (.slice A5 v.P.length c5) (.slice B5 v.Q.length d5))
              have HX5 := Lib.hid (And.intro ((HXy.out.1.below hb5).below hw5) ((HXy.out.2.1.below hb5).below hw5))
              have HB5 := Lib.hid ((HBy.out.trans (hb5.mono HBy.out.size)).trans (hw5.mono (HBy.out.trans (hb5.mono HBy.out.size)).size))
              have HA5 := Lib.hid (And.intro (hA5.below hw5) (hB5.below hw5))
              rw [hgn] at HGN
              rw [hgn]
              clear hv hE2 hA5 hB5 hb5 nA5 nB5 htw HXy HAy HBy hw5 hgn
              generalize w5.alloc (.cells #[.int .i64 v.k, .int .i64 v.s, .int .i64 v.z, .int .u64 v.zc, .int .u64 v.ct, .int .i64 v.sm, .slice A5 v.P.length c5, .slice B5 v.Q.length d5] 25) = w6 at *
              by_cases hok : E2 = 0
              · skip
                subst hok
                obtain ⟨x0, x1, x2, x3, x4, x5, x6, x7⟩ := HX5.out.2.cells
                obtain ⟨e0, e1, e2, e3, e4, e5, e6, e7⟩ := HX5.out.2.frozen
                have l1 := HX5.out.2.lt
                obtain ⟨n0, n1, n2, n3, n4, n5, n6, n7⟩ := HXn.out.cells
                have ln := HXn.out.lt
                go_wp2_with fail
                clear x0 x1 x2 x3 x4 x5 x6 x7 e0 e1 e2 e3 e4 e5 e6 e7 l1 n0 n1 n2 n3 n4 n5 n6 n7 ln
                have HAdd := Lib.hid (HT.out.add HRE.out.2)
                rw [HRE.out.1] at HAdd
                have HRn := Lib.hid (show RisRel w g0 g1 h0 rest (k + 1) (set8 w6 g1 (.int .i64 v.k) (.int .i64 v.s) (.int .i64 v.z) (.int .u64 v.zc) (.int .u64 v.ct) (.int .i64 v.sm) (.slice A5 v.P.length c5) (.slice B5 v.Q.length d5)) from ⟨v, y, A5, B5, c5, d5, ⟨HX5.out.1.off8 (by have := HG1.out; omega) _ _ _ _ _ _ _ _, HX5.out.2.put8 _ _ _ _ _ _ _ _⟩, ⟨HA5.out.1.set8 HS5.out.2.1 _ _ _ _ _ _ _ _, HA5.out.2.set8 HS5.out.2.2.2 _ _ _ _ _ _ _ _⟩, HN5.out, ⟨.inr fun a ha => ⟨HS5.out.1 a ha, HS5.out.2.1 a ha⟩, .inr fun a ha => ⟨HS5.out.2.2.1 a ha, HS5.out.2.2.2 a ha⟩⟩, HAdd.out.ok, ⟨HYk.out, fun o E hh => HSr.out o E (by rw [HD.out]; exact .step HMore.out HT.out HRE.out.2 (by rw [HRE.out.1]; exact hh))⟩, below_set8 HB5.out (by have := HG1.out; have := HG0.out; omega) _ _ _ _ _ _ _ _⟩)
                generalize hW : ((((((((w6.setCell ⟨g1, 0, none⟩ (.int .i64 v.k)).setCell ⟨g1, 1, none⟩ (.int .i64 v.s)).setCell ⟨g1, 2, none⟩ (.int .i64 v.z)).setCell ⟨g1, 3, none⟩ (.int .u64 v.zc)).setCell ⟨g1, 4, none⟩ (.int .u64 v.ct)).setCell ⟨g1, 5, none⟩ (.int .i64 v.sm)).setCell ⟨g1, 6, none⟩ (.slice A5 v.P.length c5)).setCell ⟨g1, 7, none⟩ (.slice B5 v.Q.length d5)) = w7
                have hW' : set8 w6 g1 (.int .i64 v.k) (.int .i64 v.s) (.int .i64 v.z) (.int .u64 v.zc) (.int .u64 v.ct) (.int .i64 v.sm) (.slice A5 v.P.length c5) (.slice B5 v.Q.length d5) = w7 := hW
                rw [hW'] at HRn
                clear hW hW'
                go_roundw
                case rel => exact ⟨k + 1, kk + 1, Lib.hid (by have := HKK.out; omega), by omega, by go_num, HRn⟩
                case measure => simp [intOf]; omega
              · skip
                have hok1 : (E2 != 0) = true := by simpa using hok
                have HNE := Lib.hid hok
                clear hok
                have HE := Lib.hid (show ∃ o E', RiseF (h0 :: rest) o E' ∧ RetH w o E' (.returned (.tuple #[.agg #[.int .i64 0, .int .i64 0, .int .i64 0, .int .u64 0, .int .u64 0, .int .i64 0, .slice none 0 0, .slice none 0 0], .int .i64 E2])) (set8 w6 g0 (.int .i64 0) (.int .i64 0) (.int .i64 0) (.int .u64 0) (.int .u64 0) (.int .i64 0) (.slice none 0 0) (.slice none 0 0)) from ⟨zeroV, E2, (RiseF.main HM2.out).2 (.inr ⟨HK.out, HSr.out _ _ (by rw [HD.out, ← HRE.out.2]; exact .over HMore.out HT.out (by rw [HRE.out.2]; exact HNE.out))⟩), RetH.zero (below_set8 HB5.out (by have := HG0.out; omega) _ _ _ _ _ _ _ _)⟩)
                have HF := Lib.hid (HX5.out.1.put8 (.int .i64 0) (.int .i64 0) (.int .i64 0) (.int .u64 0) (.int .u64 0) (.int .i64 0) (.slice none 0 0) (.slice none 0 0))
                obtain ⟨z0, z1, z2, z3, z4, z5, z6, z7⟩ := HX5.out.1.cells
                obtain ⟨f0, f1, f2, f3, f4, f5, f6, f7⟩ := HX5.out.1.frozen
                have l0 := HX5.out.1.lt
                go_wp2_with fail
                clear z0 z1 z2 z3 z4 z5 z6 z7 f0 f1 f2 f3 f4 f5 f6 f7 l0
                generalize hW : ((((((((w6.setCell ⟨g0, 0, none⟩ (.int .i64 0)).setCell ⟨g0, 1, none⟩ (.int .i64 0)).setCell ⟨g0, 2, none⟩ (.int .i64 0)).setCell ⟨g0, 3, none⟩ (.int .u64 0)).setCell ⟨g0, 4, none⟩ (.int .u64 0)).setCell ⟨g0, 5, none⟩ (.int .i64 0)).setCell ⟨g0, 6, none⟩ (.slice none 0 0)).setCell ⟨g0, 7, none⟩ (.slice none 0 0)) = w9
                have hW' : (set8 w6 (g0) (.int .i64 0) (.int .i64 0) (.int .i64 0) (.int .u64 0) (.int .u64 0) (.int .i64 0) (.slice none 0 0) (.slice none 0 0)) = w9 := hW
                rw [hW'] at HE HF
                obtain ⟨z0, z1, z2, z3, z4, z5, z6, z7⟩ := HF.out.cells
                exact bodyPost_ret (v := .tuple #[.agg #[.int .i64 0, .int .i64 0, .int .i64 0, .int .u64 0, .int .u64 0, .int .i64 0, .slice none 0 0, .slice none 0 0], .int .i64 E2]) (by simp [results, Try.results21, go_sem, z0, z1, z2, z3, z4, z5, z6, z7]) rfl HE.out
            · have he1 : (E == 21) = false := by simpa using h21
              by_cases h00 : E = 0
              · subst h00
                have HMore := Lib.hid (show MoreR y p r 0 from by rw [← HrE.out.1]; exact .less HTw.out HrE.out.2)
                have HOm := Lib.hid (show Ok r from by rw [← HrE.out.1]; exact (HTw.out.sub HrE.out.2).ok)
                clear h21
                obtain ⟨x0, x1, x2, x3, x4, x5, x6, x7⟩ := HXc.out.2.1.cells
                obtain ⟨z0, z1, z2, z3, z4, z5, z6, z7⟩ := HXc.out.2.2.cells
                have l1 := HXc.out.2.1.lt
                have l3 := HXc.out.2.2.lt
                go_wp2_with fail
                clear x0 x1 x2 x3 x4 x5 x6 x7 z0 z1 z2 z3 z4 z5 z6 z7 l1 l3
                have HXy := HXc
                have HAy := Lib.hid (And.intro HAc.out.1 HA3.out)
                have HBy := HBc
                clear HXc HAc HA3 HBc HQc HLq
                obtain ⟨wy, hwy⟩ : ∃ W, W = wx := ⟨_, rfl⟩
                subst hwy
                refine (refadd_h x r A1 B1 A3 B3 c1 d1 c3 d3 wy HAy.out.1.1 HAy.out.1.2 HAy.out.2.1 HAy.out.2.2 HOr.out HOm.out).mono ?_
                rintro e w5 ⟨p', q', htw, A5, B5, c5, d5, rfl, hA5, hB5, hb5, nA5, nB5⟩
                have HT := Lib.hid htw
                obtain ⟨v, hv⟩ : ∃ r, mAddO p' q' = r := ⟨_, rfl⟩
                obtain ⟨E2, hE2⟩ : ∃ E, mAddE p' q' = E := ⟨_, rfl⟩
                rw [hv] at hA5 hB5
                simp only [hvA, hv, hE2]
                have HRE := Lib.hid (And.intro hv hE2)
                have HS5 := Lib.hid (And.intro (nA5.ne HXy.out.1.lt) (And.intro (nA5.ne HXy.out.2.1.lt) (And.intro (nB5.ne HXy.out.1.lt) (nB5.ne HXy.out.2.1.lt))))
                have HN5 := Lib.hid (And.intro (nA5.mono HBy.out.size) (nB5.mono HBy.out.size))
                go_upto_region 18 with fail
                have hw5 : Below w5.heap.size w5 (w5.alloc (.cells #[.int .i64 v.k, .int .i64 v.s, .int .i64 v.z, .int .u64 v.zc, .int .u64 v.ct, .int .i64 v.sm, .slice A5 v.P.length c5, .slice B5 v.Q.length d5] 25)) := (Below.refl _ _).alloc (Nat.le_refl _) _
                obtain ⟨gn, hgn⟩ : ∃ g, w5.heap.size = g := ⟨_, rfl⟩
                have HGN := Lib.hid (And.intro (HXy.out.1.below hb5).lt (HXy.out.2.1.below hb5).lt)
                have HXn := Lib.hid (Box.newAt w5 gn hgn (.int .i64 v.k) (.int .i64 v.s) (.int .i64 v.z) (.int .u64 v.zc) (.int .u64 v.ct) (.int .i64 v.sm) (.slice A5 v.P.length c5) (.slice B5 v.Q.length d5))
                have HX5 := Lib.hid (And.intro ((HXy.out.1.below hb5).below hw5) ((HXy.out.2.1.below hb5).below hw5))
                have HB5 := Lib.hid ((HBy.out.trans (hb5.mono HBy.out.size)).trans (hw5.mono (HBy.out.trans (hb5.mono HBy.out.size)).size))
                have HA5 := Lib.hid (And.intro (hA5.below hw5) (hB5.below hw5))
                rw [hgn] at HGN
                rw [hgn]
                clear hv hE2 hA5 hB5 hb5 nA5 nB5 htw HXy HAy HBy hw5 hgn
                generalize w5.alloc (.cells #[.int .i64 v.k, .int .i64 v.s, .int .i64 v.z, .int .u64 v.zc, .int .u64 v.ct, .int .i64 v.sm, .slice A5 v.P.length c5, .slice B5 v.Q.length d5] 25) = w6 at *
                by_cases hok : E2 = 0
                · skip
                  subst hok
                  obtain ⟨x0, x1, x2, x3, x4, x5, x6, x7⟩ := HX5.out.2.cells
                  obtain ⟨e0, e1, e2, e3, e4, e5, e6, e7⟩ := HX5.out.2.frozen
                  have l1 := HX5.out.2.lt
                  obtain ⟨n0, n1, n2, n3, n4, n5, n6, n7⟩ := HXn.out.cells
                  have ln := HXn.out.lt
                  go_wp2_with fail
                  clear x0 x1 x2 x3 x4 x5 x6 x7 e0 e1 e2 e3 e4 e5 e6 e7 l1 n0 n1 n2 n3 n4 n5 n6 n7 ln
                  have HAdd := Lib.hid (HT.out.add HRE.out.2)
                  rw [HRE.out.1] at HAdd
                  have HRn := Lib.hid (show RisRel w g0 g1 h0 rest (k + 1) (set8 w6 g1 (.int .i64 v.k) (.int .i64 v.s) (.int .i64 v.z) (.int .u64 v.zc) (.int .u64 v.ct) (.int .i64 v.sm) (.slice A5 v.P.length c5) (.slice B5 v.Q.length d5)) from ⟨v, y, A5, B5, c5, d5, ⟨HX5.out.1.off8 (by have := HG1.out; omega) _ _ _ _ _ _ _ _, HX5.out.2.put8 _ _ _ _ _ _ _ _⟩, ⟨HA5.out.1.set8 HS5.out.2.1 _ _ _ _ _ _ _ _, HA5.out.2.set8 HS5.out.2.2.2 _ _ _ _ _ _ _ _⟩, HN5.out, ⟨.inr fun a ha => ⟨HS5.out.1 a ha, HS5.out.2.1 a ha⟩, .inr fun a ha => ⟨HS5.out.2.2.1 a ha, HS5.out.2.2.2 a ha⟩⟩, HAdd.out.ok, ⟨HYk.out, fun o E hh => HSr.out o E (by rw [HD.out]; exact .step HMore.out HT.out HRE.out.2 (by rw [HRE.out.1]; exact hh))⟩, below_set8 HB5.out (by have := HG1.out; have := HG0.out; omega) _ _ _ _ _ _ _ _⟩)
                  generalize hW : ((((((((w6.setCell ⟨g1, 0, none⟩ (.int .i64 v.k)).setCell ⟨g1, 1, none⟩ (.int .i64 v.s)).setCell ⟨g1, 2, none⟩ (.int .i64 v.z)).setCell ⟨g1, 3, none⟩ (.int .u64 v.zc)).setCell ⟨g1, 4, none⟩ (.int .u64 v.ct)).setCell ⟨g1, 5, none⟩ (.int .i64 v.sm)).setCell ⟨g1, 6, none⟩ (.slice A5 v.P.length c5)).setCell ⟨g1, 7, none⟩ (.slice B5 v.Q.length d5)) = w7
                  have hW' : set8 w6 g1 (.int .i64 v.k) (.int .i64 v.s) (.int .i64 v.z) (.int .u64 v.zc) (.int .u64 v.ct) (.int .i64 v.sm) (.slice A5 v.P.length c5) (.slice B5 v.Q.length d5) = w7 := hW
                  rw [hW'] at HRn
                  clear hW hW'
                  go_roundw
                  case rel => exact ⟨k + 1, kk + 1, Lib.hid (by have := HKK.out; omega), by omega, by go_num, HRn⟩
                  case measure => simp [intOf]; omega
                · skip
                  have hok1 : (E2 != 0) = true := by simpa using hok
                  have HNE := Lib.hid hok
                  clear hok
                  have HE := Lib.hid (show ∃ o E', RiseF (h0 :: rest) o E' ∧ RetH w o E' (.returned (.tuple #[.agg #[.int .i64 0, .int .i64 0, .int .i64 0, .int .u64 0, .int .u64 0, .int .i64 0, .slice none 0 0, .slice none 0 0], .int .i64 E2])) (set8 w6 g0 (.int .i64 0) (.int .i64 0) (.int .i64 0) (.int .u64 0) (.int .u64 0) (.int .i64 0) (.slice none 0 0) (.slice none 0 0)) from ⟨zeroV, E2, (RiseF.main HM2.out).2 (.inr ⟨HK.out, HSr.out _ _ (by rw [HD.out, ← HRE.out.2]; exact .over HMore.out HT.out (by rw [HRE.out.2]; exact HNE.out))⟩), RetH.zero (below_set8 HB5.out (by have := HG0.out; omega) _ _ _ _ _ _ _ _)⟩)
                  have HF := Lib.hid (HX5.out.1.put8 (.int .i64 0) (.int .i64 0) (.int .i64 0) (.int .u64 0) (.int .u64 0) (.int .i64 0) (.slice none 0 0) (.slice none 0 0))
                  obtain ⟨z0, z1, z2, z3, z4, z5, z6, z7⟩ := HX5.out.1.cells
                  obtain ⟨f0, f1, f2, f3, f4, f5, f6, f7⟩ := HX5.out.1.frozen
                  have l0 := HX5.out.1.lt
                  go_wp2_with fail
                  clear z0 z1 z2 z3 z4 z5 z6 z7 f0 f1 f2 f3 f4 f5 f6 f7 l0
                  generalize hW : ((((((((w6.setCell ⟨g0, 0, none⟩ (.int .i64 0)).setCell ⟨g0, 1, none⟩ (.int .i64 0)).setCell ⟨g0, 2, none⟩ (.int .i64 0)).setCell ⟨g0, 3, none⟩ (.int .u64 0)).setCell ⟨g0, 4, none⟩ (.int .u64 0)).setCell ⟨g0, 5, none⟩ (.int .i64 0)).setCell ⟨g0, 6, none⟩ (.slice none 0 0)).setCell ⟨g0, 7, none⟩ (.slice none 0 0)) = w9
                  have hW' : (set8 w6 (g0) (.int .i64 0) (.int .i64 0) (.int .i64 0) (.int .u64 0) (.int .u64 0) (.int .i64 0) (.slice none 0 0) (.slice none 0 0)) = w9 := hW
                  rw [hW'] at HE HF
                  obtain ⟨z0, z1, z2, z3, z4, z5, z6, z7⟩ := HF.out.cells
                  exact bodyPost_ret (v := .tuple #[.agg #[.int .i64 0, .int .i64 0, .int .i64 0, .int .u64 0, .int .u64 0, .int .i64 0, .slice none 0 0, .slice none 0 0], .int .i64 E2]) (by simp [results, Try.results21, go_sem, z0, z1, z2, z3, z4, z5, z6, z7]) rfl HE.out
              · have he2 : (E != 0) = true := by simpa using h00
                have HNE := Lib.hid (And.intro h21 h00)
                clear h21 h00
                have HE := Lib.hid (show ∃ o E', RiseF (h0 :: rest) o E' ∧ RetH w o E' (.returned (.tuple #[.agg #[.int .i64 0, .int .i64 0, .int .i64 0, .int .u64 0, .int .u64 0, .int .i64 0, .slice none 0 0, .slice none 0 0], .int .i64 E])) (set8 wx g0 (.int .i64 0) (.int .i64 0) (.int .i64 0) (.int .u64 0) (.int .u64 0) (.int .i64 0) (.slice none 0 0) (.slice none 0 0)) from ⟨zeroV, E, (RiseF.main HM2.out).2 (.inr ⟨HK.out, HSr.out _ _ (by rw [HD.out, ← HrE.out.2]; exact .bad (.bad HTw.out (by rw [HrE.out.2]; exact HNE.out.2) (by rw [HrE.out.2]; exact HNE.out.1)) (by rw [HrE.out.2]; exact HNE.out.2))⟩), RetH.zero (below_set8 HBc.out (by have := HG0.out; omega) _ _ _ _ _ _ _ _)⟩)
                have HF := Lib.hid (HXc.out.1.put8 (.int .i64 0) (.int .i64 0) (.int .i64 0) (.int .u64 0) (.int .u64 0) (.int .i64 0) (.slice none 0 0) (.slice none 0 0))
                obtain ⟨z0, z1, z2, z3, z4, z5, z6, z7⟩ := HXc.out.1.cells
                obtain ⟨f0, f1, f2, f3, f4, f5, f6, f7⟩ := HXc.out.1.frozen
                have l0 := HXc.out.1.lt
                go_wp2_with fail
                clear z0 z1 z2 z3 z4 z5 z6 z7 f0 f1 f2 f3 f4 f5 f6 f7 l0
                generalize hW : ((((((((wx.setCell ⟨g0, 0, none⟩ (.int .i64 0)).setCell ⟨g0, 1, none⟩ (.int .i64 0)).setCell ⟨g0, 2, none⟩ (.int .i64 0)).setCell ⟨g0, 3, none⟩ (.int .u64 0)).setCell ⟨g0, 4, none⟩ (.int .u64 0)).setCell ⟨g0, 5, none⟩ (.int .i64 0)).setCell ⟨g0, 6, none⟩ (.slice none 0 0)).setCell ⟨g0, 7, none⟩ (.slice none 0 0)) = w9
                have hW' : (set8 wx (g0) (.int .i64 0) (.int .i64 0) (.int .i64 0) (.int .u64 0) (.int .u64 0) (.int .i64 0) (.slice none 0 0) (.slice none 0 0)) = w9 := hW
                rw [hW'] at HE HF
                obtain ⟨z0, z1, z2, z3, z4, z5, z6, z7⟩ := HF.out.cells
                exact bodyPost_ret (v := .tuple #[.agg #[.int .i64 0, .int .i64 0, .int .i64 0, .int .u64 0, .int .u64 0, .int .i64 0, .slice none 0 0, .slice none 0 0], .int .i64 E]) (by simp [results, Try.results21, go_sem, z0, z1, z2, z3, z4, z5, z6, z7]) rfl HE.out
        · obtain rfl : k = M := by omega
          have hki : ¬ ((kk : Int) < (N : Int)) := by have := HKK.out; have := HM1.out; omega
          have HE := Lib.hid (show ∃ o E', RiseF (h0 :: rest) o E' ∧ RetH w o E' (.returned (.tuple #[.agg #[.int .i64 x.k, .int .i64 x.s, .int .i64 x.z, .int .u64 x.zc, .int .u64 x.ct, .int .i64 x.sm, .slice A1 x.P.length c1, .slice B1 x.Q.length d1], .int .i64 0])) (set8 w4 g0 (.int .i64 x.k) (.int .i64 x.s) (.int .i64 x.z) (.int .u64 x.zc) (.int .u64 x.ct) (.int .i64 x.sm) (.slice A1 x.P.length c1) (.slice B1 x.Q.length d1)) from ⟨x, 0, (RiseF.main HM2.out).2 (.inr ⟨HK.out, HSr.out _ _ (by rw [List.drop_eq_nil_of_le (by have := HM.out; omega)]; exact .done x p)⟩), A1, B1, c1, d1, rfl, HAr.out.1.set8n (or_l HEr.out.1) _ _ _ _ _ _ _ _, HAr.out.2.set8n (or_l HEr.out.2) _ _ _ _ _ _ _ _, below_set8 HBr.out (by have := HG0.out; omega) _ _ _ _ _ _ _ _, HNr.out.1, HNr.out.2⟩)
          have HF := Lib.hid (HXr.out.1.put8 (.int .i64 x.k) (.int .i64 x.s) (.int .i64 x.z) (.int .u64 x.zc) (.int .u64 x.ct) (.int .i64 x.sm) (.slice A1 x.P.length c1) (.slice B1 x.Q.length d1))
          obtain ⟨x0, x1, x2, x3, x4, x5, x6, x7⟩ := HXr.out.2.cells
          obtain ⟨z0, z1, z2, z3, z4, z5, z6, z7⟩ := HXr.out.1.cells
          obtain ⟨f0, f1, f2, f3, f4, f5, f6, f7⟩ := HXr.out.1.frozen
          have l0 := HXr.out.1.lt
          have l1 := HXr.out.2.lt
          go_wp2_with fail
          clear x0 x1 x2 x3 x4 x5 x6 x7 z0 z1 z2 z3 z4 z5 z6 z7 f0 f1 f2 f3 f4 f5 f6 f7 l0 l1
          generalize hW : ((((((((w4.setCell ⟨g0, 0, none⟩ (.int .i64 x.k)).setCell ⟨g0, 1, none⟩ (.int .i64 x.s)).setCell ⟨g0, 2, none⟩ (.int .i64 x.z)).setCell ⟨g0, 3, none⟩ (.int .u64 x.zc)).setCell ⟨g0, 4, none⟩ (.int .u64 x.ct)).setCell ⟨g0, 5, none⟩ (.int .i64 x.sm)).setCell ⟨g0, 6, none⟩ (.slice A1 x.P.length c1)).setCell ⟨g0, 7, none⟩ (.slice B1 x.Q.length d1)) = w9
          have hW' : (set8 w4 (g0) (.int .i64 x.k) (.int .i64 x.s) (.int .i64 x.z) (.int .u64 x.zc) (.int .u64 x.ct) (.int .i64 x.sm) (.slice A1 x.P.length c1) (.slice B1 x.Q.length d1)) = w9 := hW
          rw [hW'] at HE HF
          obtain ⟨z0, z1, z2, z3, z4, z5, z6, z7⟩ := HF.out.cells
          exact bodyPost_ret (v := .tuple #[.agg #[.int .i64 x.k, .int .i64 x.s, .int .i64 x.z, .int .u64 x.zc, .int .u64 x.ct, .int .i64 x.sm, .slice A1 x.P.length c1, .slice B1 x.Q.length d1], .int .i64 0]) (by simp [results, Try.results21, go_sem, z0, z1, z2, z3, z4, z5, z6, z7]) rfl HE.out
end Go.Proofs.Ytbibhjcmdehdbaa
