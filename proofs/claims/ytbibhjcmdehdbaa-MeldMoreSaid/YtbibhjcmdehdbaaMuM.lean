/- The law MeldMore: its walk. -/
import Derived.Test.YtbibhjcmdehdbaaMuI
import Derived.Deep.RegionWith
import Derived.Deep.CutRange
import Derived.Deep.QuietTactic
import Derived.BigQuiet
import Derived.Lib.QuietBelow
namespace Go.Proofs.Ytbibhjcmdehdbaa
open Go.RowKit Go.Sort Go.Maps
set_option linter.unusedVariables false

theorem Hl.oks' {w : World} {D : Option Addr} {hs : List HV} (h : Hl w D hs) (hsm : ∀ x ∈ hs, inI64 x.sm) (hR : rightF hs = true) : ∀ x ∈ hs, Ok x := fun x hx => by
  have h0 : 0 < hs.length := List.length_pos_of_mem hx
  obtain ⟨b, off, _, hc⟩ := h.some_ h0
  obtain ⟨j, hj, e⟩ := List.getElem_of_mem hx
  obtain ⟨A, B, c, d, _, hA, hB, z0, _⟩ := hc j x (by rw [List.getElem?_eq_getElem hj, e])
  exact fewB_ok (List.all_eq_true.1 hR x hx) z0 (hsm x hx) hA.2.1 hB.2.1
theorem Hl.head' {w : World} {D : Option Addr} {hs : List HV} (h : Hl w D hs) (h0 : 0 < hs.length) : ∃ b off, D = some ⟨b, off, none⟩ := by
  obtain ⟨b, off, e, _⟩ := h.some_ h0
  exact ⟨b, off, e⟩
theorem more_last {h q o1 o2 o3 : HV} {tl : List HV} {K : Nat} {x : Int} (hnr : NoR h tl) (hx : x = (lastH h tl).ct - h.ct) (hq : (h :: tl)[K]? = some q) (r1 : RiseR (emptyV h.s) h tl o1 0) (r2 : RiseR (emptyV h.s) h (tl.take K) o2 0) (r3 : RiseR (emptyV q.s) q (tl.drop K) o3 0) : o1.ct = x ∧ o2.ct + o3.ct = o1.ct ∧ o2.sm + o3.sm = o1.sm := by
  have e : tl.take K ++ tl.drop K = tl := List.take_append_drop K tl
  have := rise_cut (p := h) (q := q) (l := tl.take K) (m := tl.drop K) (by rw [e]; exact hnr) (lastH_take hq) ⟨rfl, rfl⟩ ⟨rfl, rfl⟩ ⟨rfl, rfl⟩ (by rw [e]; exact r1) r2 r3
  rw [e] at this
  rw [hx]
  exact this
set_option maxHeartbeats 4000000 in
set_option maxRecDepth 100000 in
theorem more_walk (h : HV) (A B : Option Addr) (c d : Nat) (D : Option Addr) (n c0 : Nat) (ms : List HV) (cut : Int) (w : World) (hP : Bk w A h.P) (hQ : Bk w B h.Q) (za : 0 ≤ h.zc ∧ h.zc ≤ 18446744073709551615) (hsm : inI64 h.sm) (hn : n = ms.length) (hcap : n ≤ c0) (hm : n ≤ 12 → Hl w D ms) (hms : ∀ x ∈ ms, inI64 x.sm) (u0 : 0 ≤ cut) (u1 : cut ≤ 255) :
    Calls Try.prog 5 #[.agg #[.int .i64 h.k, .int .i64 h.s, .int .i64 h.z, .int .u64 h.zc, .int .u64 h.ct, .int .i64 h.sm, .slice A h.P.length c, .slice B h.Q.length d], .slice D n c0, .int .u8 cut] w fun e w' => e = .returned (.bool true) ∧ Below w.heap.size w w' := by
  have HN := Lib.hid hn
  have HM0 := Lib.hid hm
  have HMS := Lib.hid hms
  have HW := Lib.hid (And.intro hP hQ)
  have HZ := Lib.hid (And.intro za hsm)
  have hb0 := ((Below.refl w.heap.size w).alloc (Nat.le_refl _) (.cells #[.int .i64 h.k, .int .i64 h.s, .int .i64 h.z, .int .u64 h.zc, .int .u64 h.ct, .int .i64 h.sm, .slice A h.P.length c, .slice B h.Q.length d] 25)).alloc (by simp) (.cells #[.int .i64 h.k, .int .i64 h.s, .int .i64 h.z, .int .u64 h.zc, .int .u64 h.ct, .int .i64 h.sm, .slice A h.P.length c, .slice B h.Q.length d] 25)
  have bx0 := (Box.new w (.int .i64 h.k) (.int .i64 h.s) (.int .i64 h.z) (.int .u64 h.zc) (.int .u64 h.ct) (.int .i64 h.sm) (.slice A h.P.length c) (.slice B h.Q.length d)).alloc (.cells #[.int .i64 h.k, .int .i64 h.s, .int .i64 h.z, .int .u64 h.zc, .int .u64 h.ct, .int .i64 h.sm, .slice A h.P.length c, .slice B h.Q.length d] 25)
  have bx1 := Hl.one (Box.newAt (w.alloc (.cells #[.int .i64 h.k, .int .i64 h.s, .int .i64 h.z, .int .u64 h.zc, .int .u64 h.ct, .int .i64 h.sm, .slice A h.P.length c, .slice B h.Q.length d] 25)) (w.heap.size + 1) (by simp) (.int .i64 h.k) (.int .i64 h.s) (.int .i64 h.z) (.int .u64 h.zc) (.int .u64 h.ct) (.int .i64 h.sm) (.slice A h.P.length c) (.slice B h.Q.length d)) (hP.below hb0) (hQ.below hb0) za.1 za.2
  have HX0 := Lib.hid bx0
  have HB0 := Lib.hid hb0
  have HL := Lib.hid bx1
  clear hP hQ za hsm hn hm hms hb0 bx0 bx1
  go_enter Try.func5, Try.ntmps5
  go_wp2_with fail
  generalize ((w.alloc (.cells #[.int .i64 h.k, .int .i64 h.s, .int .i64 h.z, .int .u64 h.zc, .int .u64 h.ct, .int .i64 h.sm, .slice A h.P.length c, .slice B h.Q.length d] 25)).alloc (.cells #[.int .i64 h.k, .int .i64 h.s, .int .i64 h.z, .int .u64 h.zc, .int .u64 h.ct, .int .i64 h.sm, .slice A h.P.length c, .slice B h.Q.length d] 25)) = w0 at *
  refine (lright_any (some ⟨w.heap.size + 1, 0, none⟩) 1 1 [h] w0 rfl HL.out).mono ?_
  rintro e w1 ⟨rfl, hb1⟩
  have hRR : rightF [h] = fewB h := by simp [rightF]
  rw [hRR]
  have HX1 := Lib.hid (HX0.out.below hb1)
  have HB1 := Lib.hid (HB0.out.trans (hb1.mono HB0.out.size))
  clear hRR hb1 HX0 HL
  rcases hf : fewB h with _ | _
  · clear hf
    go_wp2_with fail
    refine (awake07 w1).mono ?_
    rintro e wz ⟨rfl, hbz⟩
    have HBz := Lib.hid (HB1.out.trans (hbz.mono HB1.out.size))
    clear hbz
    go_wp2_with fail
    go_ret
    exact ⟨rfl, HBz.out⟩
  · have HO := Lib.hid (fewB_ok hf HZ.out.1.1 HZ.out.2 HW.out.1.2.1 HW.out.2.2.1)
    clear hf
    obtain ⟨x0, x1, x2, x3, x4, x5, x6, x7⟩ := HX1.out.cells
    have lx := HX1.out.lt
    by_cases hk : h.k = 0
    · have hk1 : (h.k != 0) = false := by simpa using hk
      have HK := Lib.hid hk
      clear hk
      by_cases h8 : (8 : Int) < n
      · go_wp2_with fail
        refine (awake07 w1).mono ?_
        rintro e wz ⟨rfl, hbz⟩
        have HBz := Lib.hid (HB1.out.trans (hbz.mono HB1.out.size))
        clear hbz
        go_wp2_with fail
        go_ret
        exact ⟨rfl, HBz.out⟩
      · go_wp2_with fail
        have HH := Lib.hid (HM0.out (by omega))
        clear HM0 x0 x1 x2 x3 x4 x5 x6 x7 lx
        refine (lright_any D n c0 ms w1 HN.out (HH.out.below HB1.out)).mono ?_
        rintro e w2 ⟨rfl, hb2⟩
        have HX2 := Lib.hid (HX1.out.below hb2)
        have HB2 := Lib.hid (HB1.out.trans (hb2.mono HB1.out.size))
        clear hb2 HX1
        rcases hR : rightF ms with _ | _
        · clear hR
          go_wp2_with fail
          refine (awake07 w2).mono ?_
          rintro e wz ⟨rfl, hbz⟩
          have HBz := Lib.hid (HB2.out.trans (hbz.mono HB2.out.size))
          clear hbz
          go_wp2_with fail
          go_ret
          exact ⟨rfl, HBz.out⟩
        · have HOs := Lib.hid (HH.out.oks' HMS.out hR)
          clear hR
          obtain ⟨x0, x1, x2, x3, x4, x5, x6, x7⟩ := HX2.out.cells
          have lx := HX2.out.lt
          go_upto_region 4 with fail
          have hw : Below w2.heap.size w2 (w2.alloc (.cells #[.int .i64 h.k, .int .i64 h.s, .int .i64 h.z, .int .u64 h.zc, .int .u64 h.ct, .int .i64 h.sm, .slice A h.P.length c, .slice B h.Q.length d] 25)) := (Below.refl _ _).alloc (Nat.le_refl _) _
          have hown := World.ownsRow_lit (base := w.heap.size + 1) (e := 25) (size := 8) w2 #[.int .i64 h.k, .int .i64 h.s, .int .i64 h.z, .int .u64 h.zc, .int .u64 h.ct, .int .i64 h.sm, .slice A h.P.length c, .slice B h.Q.length d] 1 (by have := HX2.out.lt; omega) (by decide) rfl
          have HS0 := Lib.hid (show MoS w h A B c d 1 w2.heap.size 1 [⟨h, A, B, c, d⟩] 0 (w2.alloc (.cells #[.int .i64 h.k, .int .i64 h.s, .int .i64 h.z, .int .u64 h.zc, .int .u64 h.ct, .int .i64 h.sm, .slice A h.P.length c, .slice B h.Q.length d] 25)) from ⟨HX2.out.below hw, hown, rfl, fun q hq => by
            rw [List.mem_singleton.1 hq]
            exact ⟨(HW.out.1.below HB2.out).below hw, (HW.out.2.below HB2.out).below hw, (HW.out.1.below HB2.out).ne_lt' (Nat.le_refl _), (HW.out.2.below HB2.out).ne_lt' (Nat.le_refl _), HO.out, HK.out⟩, ⟨[], rfl, trivial, by show (0 : Int) = h.ct - h.ct; omega, Int.le_refl _, ⟨h, A, B, c, d⟩, rfl, rfl⟩, HB2.out.alloc HB2.out.size _⟩)
          obtain ⟨g0, hg0⟩ : ∃ g, w2.heap.size = g := ⟨_, rfl⟩
          rw [hg0] at HS0 ⊢
          clear hw hown x0 x1 x2 x3 x4 x5 x6 x7 lx hg0 HX2 HB2
          generalize w2.alloc (.cells #[.int .i64 h.k, .int .i64 h.s, .int .i64 h.z, .int .u64 h.zc, .int .u64 h.ct, .int .i64 h.sm, .slice A h.P.length c, .slice B h.Q.length d] 25) = w3 at *
          go_wp2_with fail
          go_loopw [7, 8, 44] (fun v cnt i wr => ∃ (k kk g cap : Nat) (L : List HE) (x : Int), Hid (kk = k + 1) ∧ k ≤ n ∧ v = .slice (some ⟨g, 0, none⟩) kk cap ∧ cnt = .int .u64 x ∧ i = .int .i64 k ∧ Hid (MoS w h A B c d kk g cap L x wr)) (fun _ _ i _ => n - (intOf i).toNat)
          case atStart => exact ⟨0, 1, g0, 1, [⟨h, A, B, c, d⟩], 0, Lib.hid rfl, by omega, rfl, rfl, rfl, HS0⟩
          case round =>
            obtain ⟨k, kk, g, cap, L, x, HKK, hk, rfl, rfl, rfl, HS⟩ := hrel
            clear HS0
            by_cases hlt : k < n
            · have hki : (k : Int) < (n : Int) := by omega
              have hcpI : (n : Int) ≤ (c0 : Int) := by omega
              obtain ⟨b, off, rfl⟩ := HH.out.head' (by have := HN.out; omega)
              obtain ⟨y, hy⟩ := getElem?_lt (l := ms) (k := k) (by have := HN.out; omega)
              have HOy := Lib.hid (ok_zero (HOs.out y (List.mem_of_getElem? hy)))
              obtain ⟨A2, B2, c2, d2, ⟨p0, p1, p2, p3, p4, p5, p6, p7⟩, hA2, hB2⟩ := hl_cells (HH.out.below HS.out.bel) hy
              have hlp := block_lt_of_cell p0
              simp only at hlp
              have HA2 := Lib.hid (And.intro hA2 hB2)
              clear hA2 hB2 hy
              go_upto_region 9 with fail
              clear p0 p1 p2 p3 p4 p5 p6 p7 hlp
              have hw : Below wr.heap.size wr (wr.alloc (.cells #[.int .i64 0, .int .i64 y.s, .int .i64 y.z, .int .u64 y.zc, .int .u64 y.ct, .int .i64 y.sm, .slice A2 y.P.length c2, .slice B2 y.Q.length d2] 25)) := (Below.refl _ _).alloc (Nat.le_refl _) _
              obtain ⟨gm, hgm⟩ : ∃ g, wr.heap.size = g := ⟨_, rfl⟩
              have HM4 := Lib.hid (Box.newAt wr gm hgm (.int .i64 0) (.int .i64 y.s) (.int .i64 y.z) (.int .u64 y.zc) (.int .u64 y.ct) (.int .i64 y.sm) (.slice A2 y.P.length c2) (.slice B2 y.Q.length d2))
              have HS4 := Lib.hid (HS.out.below hw)
              have HA4 := Lib.hid (And.intro (HA2.out.1.below hw) (HA2.out.2.below hw))
              rw [hgm]
              clear hw hgm HS HA2
              generalize wr.alloc (.cells #[.int .i64 0, .int .i64 y.s, .int .i64 y.z, .int .u64 y.zc, .int .u64 y.ct, .int .i64 y.sm, .slice A2 y.P.length c2, .slice B2 y.Q.length d2] 25) = w4 at *
              obtain ⟨tl, h1, h2, h3, h4, e, he, hl⟩ := HS4.out.tl
              have HEl := Lib.hid he
              have HEk := Lib.hid (show L[k]? = some e from by have := HKK.out; rw [show kk - 1 = k by omega] at he; exact he)
              have HEn := Lib.hid (HS4.out.ens e (List.mem_of_getElem? he))
              clear h1 h2 h3 h4 he hl
              obtain ⟨q0, q1, q2, q3, q4, q5, q6, q7⟩ := HS4.out.at_ HEk.out
              have hlq := HS4.out.lt.2
              obtain ⟨y0, y1, y2, y3, y4, y5, y6, y7⟩ := HM4.out.cells
              have ly := HM4.out.lt
              have hkm : (kk : Int) - 1 = (k : Int) := by have := HKK.out; omega
              have hkn : (k : Int) < (kk : Int) := by have := HKK.out; omega
              have hwk : IntKind.i64.wrap (k : Int) = (k : Int) := by simp [IntKind.wrap, IntKind.signed, IntKind.bits] <;> (try split) <;> omega
              have HC := Lib.hid (fun (W : World) (hW : Below w4.heap.size w4 W) => show Calls Try.prog 14 #[.agg #[.int .i64 e.h.k, .int .i64 e.h.s, .int .i64 e.h.z, .int .u64 e.h.zc, .int .u64 e.h.ct, .int .i64 e.h.sm, .slice e.A e.h.P.length e.c, .slice e.B e.h.Q.length e.d], .agg #[.int .i64 0, .int .i64 y.s, .int .i64 y.z, .int .u64 y.zc, .int .u64 y.ct, .int .i64 y.sm, .slice A2 y.P.length c2, .slice B2 y.Q.length d2]] W (fun e' w' => ∃ x' y', Two e.h (HV.mk 0 y.s y.z y.zc y.ct y.sm y.P y.Q) x' y' ∧ RetH W (mAddO x' y') (mAddE x' y') e' w') from add_h e.h (HV.mk 0 y.s y.z y.zc y.ct y.sm y.P y.Q) e.A e.B A2 B2 e.c e.d c2 d2 W (HEn.out.P.below hW) (HEn.out.Q.below hW) (HA4.out.1.below hW) (HA4.out.2.below hW) HEn.out.ok HOy.out)
              have HCa := Lib.hid (fun (W : World) (hW : Below w4.heap.size w4 W) => (HC.out W hW).mono (fun e' w' hr => show PostA w4 (AddR e.h (HV.mk 0 y.s y.z y.zc y.ct y.sm y.P y.Q)) e' w' from by obtain ⟨x', y', ht, h⟩ := hr; exact postA hW ⟨x', y', ht, rfl, rfl⟩ h))
              have HCb := Lib.hid (fun (W : World) (hW : Below w4.heap.size w4 W) (hz : Box W w4.heap.size (.int .i64 0) (.int .i64 0) (.int .i64 0) (.int .u64 0) (.int .u64 0) (.int .i64 0) (.slice none 0 0) (.slice none 0 0)) => (HC.out W hW).mono (fun e' w' hr => show PostB w4 (AddR e.h (HV.mk 0 y.s y.z y.zc y.ct y.sm y.P y.Q)) e' w' from by obtain ⟨x', y', ht, h⟩ := hr; exact postB hW hz ⟨x', y', ht, rfl, rfl⟩ h))
              go_cut [11, 12] from 49 to 59 (fun s7 s8 wx => RetCut w4 (AddR e.h (HV.mk 0 y.s y.z y.zc y.ct y.sm y.P y.Q)) s7 s8 wx)
              have hq0 : Below w4.heap.size w4 w4 := Below.refl _ _
              have hq1 : Below w4.heap.size w4 w4.drew := Below.drew (Below.refl _ _)
              have hq2 : Below w4.heap.size w4 (w4.alloc (.cells #[.int .i64 0, .int .i64 0, .int .i64 0, .int .u64 0, .int .u64 0, .int .i64 0, .slice none 0 0, .slice none 0 0] 25)) := (Below.refl _ _).alloc (Nat.le_refl _) _
              have hq3 : Below w4.heap.size w4 (w4.alloc (.cells #[.int .i64 0, .int .i64 0, .int .i64 0, .int .u64 0, .int .u64 0, .int .i64 0, .slice none 0 0, .slice none 0 0] 25)).drew := Below.drew hq2
              have hq4 : Below w4.heap.size w4 (w4.drew.alloc (.cells #[.int .i64 0, .int .i64 0, .int .i64 0, .int .u64 0, .int .u64 0, .int .i64 0, .slice none 0 0, .slice none 0 0] 25)) := hq1.alloc (Nat.le_refl _) _
              have hbz2 : Box (w4.alloc (.cells #[.int .i64 0, .int .i64 0, .int .i64 0, .int .u64 0, .int .u64 0, .int .i64 0, .slice none 0 0, .slice none 0 0] 25)) w4.heap.size (.int .i64 0) (.int .i64 0) (.int .i64 0) (.int .u64 0) (.int .u64 0) (.int .i64 0) (.slice none 0 0) (.slice none 0 0) := Box.new w4 (.int .i64 0) (.int .i64 0) (.int .i64 0) (.int .u64 0) (.int .u64 0) (.int .i64 0) (.slice none 0 0) (.slice none 0 0)
              have hbz3 : Box (w4.alloc (.cells #[.int .i64 0, .int .i64 0, .int .i64 0, .int .u64 0, .int .u64 0, .int .i64 0, .slice none 0 0, .slice none 0 0] 25)).drew w4.heap.size (.int .i64 0) (.int .i64 0) (.int .i64 0) (.int .u64 0) (.int .u64 0) (.int .i64 0) (.slice none 0 0) (.slice none 0 0) := hbz2
              have hbz4 : Box (w4.drew.alloc (.cells #[.int .i64 0, .int .i64 0, .int .i64 0, .int .u64 0, .int .u64 0, .int .i64 0, .slice none 0 0, .slice none 0 0] 25)) w4.heap.size (.int .i64 0) (.int .i64 0) (.int .i64 0) (.int .u64 0) (.int .u64 0) (.int .i64 0) (.slice none 0 0) (.slice none 0 0) := Box.new w4.drew (.int .i64 0) (.int .i64 0) (.int .i64 0) (.int .u64 0) (.int .u64 0) (.int .i64 0) (.slice none 0 0) (.slice none 0 0)
              have HQ := Lib.hid (And.intro hq0 (And.intro hq1 (And.intro hq2 (And.intro hq3 hq4))))
              have HBZ := Lib.hid (And.intro hbz2 (And.intro hbz3 hbz4))
              clear hq0 hq1 hq2 hq3 hq4 hbz2 hbz3 hbz4
              case first =>
                go_region_with (go_at_call 14; first
                  | ((with_reducible refine (HCb.out _ ?q0 ?q1).mono ?_); (case q1 => with_reducible first | exact HBZ.out.1 | exact HBZ.out.2.1 | exact HBZ.out.2.2); (case q0 => with_reducible first | exact HQ.out.2.2.1 | exact HQ.out.2.2.2.1 | exact HQ.out.2.2.2.2); rintro e' w5 ⟨r, E, A3, B3, c3, d3, rfl, hT, hA, hb, nA, hne, hz⟩; have HT := Lib.hid hT; have HR5 := Lib.hid (And.intro hA (And.intro hb nA)); have HZZ := Lib.hid (And.intro hne hz); obtain ⟨z0, z1, z2, z3, z4, z5, z6, z7⟩ := hz.cells; obtain ⟨f0, f1, f2, f3, f4, f5, f6, f7⟩ := hz.frozen; have lz := hz.lt; clear hT hA hb nA hne hz)
                  | ((with_reducible refine (HCa.out _ ?q0).mono ?_); (case q0 => with_reducible first | exact HQ.out.1 | exact HQ.out.2.1); rintro e' w5 ⟨r, E, A3, B3, c3, d3, rfl, hT, hA, hb, nA⟩; have HT := Lib.hid hT; have HR5 := Lib.hid (And.intro hA (And.intro hb nA)); clear hT hA hb nA)
                  | fail)
                all_goals (go_wp2_with fail)
                all_goals go_meet
                all_goals first
                  | (have _ := HZZ; with_reducible exact RetCut.beforeC HT.out HR5.out.1 HR5.out.2.1 HR5.out.2.2 HZZ.out.1 HZZ.out.2)
                  | with_reducible exact RetCut.after HT.out HR5.out.1 HR5.out.2.1 HR5.out.2.2
                  | (have _ := HZZ; with_reducible exact (RetCut.beforeC HT.out HR5.out.1 HR5.out.2.1 HR5.out.2.2 HZZ.out.1 HZZ.out.2).drew)
                  | with_reducible exact (RetCut.after HT.out HR5.out.1 HR5.out.2.1 HR5.out.2.2).drew
                  | trace_state
              case rest =>
                obtain ⟨gn, r, E, A3, B3, c3, d3, rfl, rfl, hR, hg, hz, hA, hN, hb⟩ := hcut
                obtain ⟨wx, hwx⟩ : ∃ W, W = wc := ⟨_, rfl⟩
                subst hwx
                obtain ⟨x', y', htw, hr, hE⟩ := hR
                have HTw := Lib.hid htw
                have HrE := Lib.hid (And.intro hr hE)
                have HS5 := Lib.hid (HS4.out.below hb)
                have HX5 := Lib.hid hz
                have HA5 := Lib.hid hA
                have HNE := Lib.hid (And.intro (hN.1.ne HS4.out.lt.2) (hN.2.ne HS4.out.lt.2))
                have HGN := Lib.hid (show g < gn from by have := HS4.out.lt.2; omega)
                clear htw hr hE hz hA hN hb hg HS4 HM4 HA4 q0 q1 q2 q3 q4 q5 q6 q7 hlq y0 y1 y2 y3 y4 y5 y6 y7 ly HC HCa HCb
                by_cases h00 : E = 0
                · subst h00
                  obtain ⟨x2, y2, tR, hR0⟩ := add_reset HTw.out HrE.out.2
                  rw [HrE.out.1] at tR
                  have HTR := Lib.hid (And.intro tR hR0)
                  clear tR hR0
                  obtain ⟨q0, q1, q2, q3, q4, q5, q6, q7⟩ := HS5.out.at_ HEk.out
                  have hlq := HS5.out.lt.2
                  obtain ⟨z0, z1, z2, z3, z4, z5, z6, z7⟩ := HX5.out.cells
                  have lz := HX5.out.lt
                  have HEn5 := Lib.hid (HS5.out.ens e (List.mem_of_getElem? HEk.out))
                  have HRS := Lib.hid (fun (dq : Nat) (osq : Array Obj) => reset_two (a := e.h) (b := r) HTR.out.1 e.A e.B A3 B3 e.c e.d c3 d3 (grow (redrawn wx dq) osq) (HEn5.out.P.below (below_regrown wx dq osq)) (HEn5.out.Q.below (below_regrown wx dq osq)) (HA5.out.1.below (below_regrown wx dq osq)) (HA5.out.2.below (below_regrown wx dq osq)) false (by rw [HTR.out.2]; rfl))
                  go_upto_region 12 with fail
                  have q0' := cell_regrown q0
                  have q1' := cell_regrown q1
                  have q2' := cell_regrown q2
                  have q3' := cell_regrown q3
                  have q4' := cell_regrown q4
                  have q5' := cell_regrown q5
                  have q6' := cell_regrown q6
                  have q7' := cell_regrown q7
                  have z0' := cell_regrown z0
                  have z1' := cell_regrown z1
                  have z2' := cell_regrown z2
                  have z3' := cell_regrown z3
                  have z4' := cell_regrown z4
                  have z5' := cell_regrown z5
                  have z6' := cell_regrown z6
                  have z7' := cell_regrown z7
                  refine wp_region_quiet_below (by kernel_rfl) (by kernel_rfl) ?_
                  repeat (any_goals (first | go_big_quiet_step ((go_at_call 19; (with_reducible exact Calls.regrown_of (HRS.out _ _)))) | quiet_step ((go_at_call 19; (with_reducible exact Calls.regrown_of (HRS.out _ _))))))
                  refine wpQuiet_nil ?_
                  intro _ hw'
                  obtain ⟨⟨dq, osq⟩, hw2⟩ := hw'
                  subst hw2
                  have hb6 := below_regrown wx dq osq
                  have HS6 := Lib.hid (HS5.out.below hb6)
                  have HX6 := Lib.hid (HX5.out.below hb6)
                  have HA6 := Lib.hid (And.intro (HA5.out.1.below hb6) (HA5.out.2.below hb6))
                  clear hb6 q0 q1 q2 q3 q4 q5 q6 q7 hlq z0 z1 z2 z3 z4 z5 z6 z7 lz q0' z0' q1' z1' q2' z2' q3' z3' q4' z4' q5' z5' q6' z6' q7' z7' HRS HS5 HX5 HA5 HEn5
                  generalize grow (redrawn wx dq) osq = w6 at *
                  obtain ⟨z0, z1, z2, z3, z4, z5, z6, z7⟩ := HX6.out.cells
                  have lz := HX6.out.lt
                  have hkk9 : kk ≤ 100 := by have := HKK.out; omega
                  go_wp2_with (at_builtin; refine app_hist2 rfl _ _ rfl (w.heap.size + 1) (some ⟨g, 0, none⟩) kk cap L rfl ?c0 (w6.heap.size) rfl ⟨r, A3, B3, c3, d3⟩ ?c1 ?c2 ?c3 _ rfl ?_)
                  case c0 => exact (HS6.out.below ((Below.refl _ _).alloc (Nat.le_refl _) _)).own
                  case c1 =>
                    intro j u hu
                    have := World.news_of_block (heap_alloc_new w6 (.cells #[.int .i64 r.k, .int .i64 r.s, .int .i64 r.z, .int .u64 r.zc, .int .u64 r.ct, .int .i64 r.sm, .slice A3 r.P.length c3, .slice B3 r.Q.length d3] 25)) j u hu
                    rw [addr_at, Nat.zero_add] at this
                    exact this
                  case c2 => omega
                  case c3 => have := HS6.out.lt; simp; omega
                  intro g' cap' w8 hown hgrow hat hlt8
                  have hw : Below w6.heap.size w6 (w6.alloc (.cells #[.int .i64 r.k, .int .i64 r.s, .int .i64 r.z, .int .u64 r.zc, .int .u64 r.ct, .int .i64 r.sm, .slice A3 r.P.length c3, .slice B3 r.Q.length d3] 25)) := (Below.refl _ _).alloc (Nat.le_refl _) _
                  have HS7 := Lib.hid (HS6.out.below hw)
                  have HX8 := Lib.hid ((HX6.out.below hw).grown hgrow (by have := HGN.out; simp [Value.ownBlock]; omega))
                  have hat' : g = g' ∨ g' = (w6.alloc (.cells #[.int .i64 r.k, .int .i64 r.s, .int .i64 r.z, .int .u64 r.zc, .int .u64 r.ct, .int .i64 r.sm, .slice A3 r.P.length c3, .slice B3 r.Q.length d3] 25)).heap.size := by simpa [Value.ownBlock] using hat
                  have HS8 := Lib.hid (MoS.step HS7.out HEl.out HTw.out HrE.out.2 HrE.out.1 HOy.out rfl (HA6.out.1.below hw) (HA6.out.2.below hw) (.inr HNE.out.1) (.inr HNE.out.2) hown hgrow hat')
                  have HOr := Lib.hid (show Ok r from by rw [← HrE.out.1]; exact (HTw.out.add HrE.out.2).ok)
                  clear hown hgrow hat hat' hlt8 hw HS6 HS7 HX6 HA6 z0 z1 z2 z3 z4 z5 z6 z7 lz
                  obtain ⟨z0, z1, z2, z3, z4, z5, z6, z7⟩ := HX8.out.cells
                  have lz := HX8.out.lt
                  obtain ⟨x0, x1, x2, x3, x4, x5, x6, x7⟩ := HS8.out.box.cells
                  have lx := HS8.out.box.lt
                  have hct : 0 ≤ r.ct - h.ct := by obtain ⟨_, _, _, _, h4, _⟩ := HS8.out.tl; exact h4
                  have hctr := HOr.out.big
                  have hch : 0 ≤ h.ct := by have g := HO.out.toGood; have h1 := g.zc; have h2 := g.nP.cnt; have h3 := g.nQ.cnt; have h4 := g.ct; omega
                  go_wp2_with fail
                  go_roundw
                  case rel => exact ⟨k + 1, kk + 1, g', cap', L ++ [⟨r, A3, B3, c3, d3⟩], r.ct - h.ct, Lib.hid (by have := HKK.out; omega), by omega, by go_num, by go_num, by go_num, HS8⟩
                  case measure => simp [intOf]; omega
                · have he2 : (E != 0) = true := by simpa using h00
                  clear h00
                  go_wp2_with fail
                  refine (awake07 wx).mono ?_
                  rintro e wz ⟨rfl, hbz⟩
                  have HBz := Lib.hid (HS5.out.bel.trans (hbz.mono HS5.out.bel.size))
                  clear hbz
                  go_wp2_with fail
                  go_ret
                  exact ⟨rfl, HBz.out⟩
            · obtain rfl : k = n := by omega
              have hki : ¬ ((k : Int) < (k : Int)) := by omega
              have HKN := Lib.hid (show kk ≤ 9 from by have := HKK.out; omega)
              by_cases h3 : (kk : Int) < 3
              · go_wp2_with fail
                refine (awake07 wr).mono ?_
                rintro e wz ⟨rfl, hbz⟩
                have HBz := Lib.hid (HS.out.bel.trans (hbz.mono HS.out.bel.size))
                clear hbz
                go_wp2_with fail
                go_ret
                exact ⟨rfl, HBz.out⟩
              · obtain ⟨tl, hl1, hnr, hx1, hx0, _⟩ := HS.out.tl
                have hl := HS.out.hl (by have := HKN.out; omega)
                rw [hl1] at hl
                have HL := Lib.hid hl
                have HTL := Lib.hid (show tl.length = kk - 1 from by have := congrArg List.length hl1; rw [List.length_map, HS.out.len] at this; simp at this; omega)
                have HNR := Lib.hid hnr
                have HXX := Lib.hid hx1
                have HOA := Lib.hid (show ∀ q ∈ h :: tl, Ok q ∧ q.k = 0 from fun q hq => by
                  rw [← hl1] at hq
                  obtain ⟨e, he, rfl⟩ := List.mem_map.1 hq
                  exact ⟨(HS.out.ens e he).ok, (HS.out.ens e he).k⟩)
                have hcaps := HS.out.caps
                have HCP := Lib.hid hcaps
                have hk3 : 3 ≤ kk := by omega
                have HK3 := Lib.hid hk3
                clear hl hl1 hnr hx1 hx0 hcaps hk3
                go_wp2_with fail
                refine (rise_h g 0 cap kk h tl wr (by have := HTL.out; have := HK3.out; omega) HCP.out.1 (by have := HK3.out; omega) HL.out (fun q hq => (HOA.out q hq).1) (anyK_no fun q hq => (HOA.out q hq).2)).mono ?_
                rintro e w4 ⟨o1, E1, hr1, A4, B4, c4, d4, rfl, hA, hB, hb4, _, _⟩
                simp only [hvA]
                have HR1 := Lib.hid hr1
                have HS4 := Lib.hid (HS.out.below hb4)
                have HL4 := Lib.hid (HL.out.below hb4)
                clear hr1 hA hB hb4 HS HL
                go_upto_region 20 with fail
                have hw : Below w4.heap.size w4 (w4.alloc (.cells #[.int .i64 o1.k, .int .i64 o1.s, .int .i64 o1.z, .int .u64 o1.zc, .int .u64 o1.ct, .int .i64 o1.sm, .slice A4 o1.P.length c4, .slice B4 o1.Q.length d4] 25)) := (Below.refl _ _).alloc (Nat.le_refl _) _
                obtain ⟨ga, hga⟩ : ∃ g, w4.heap.size = g := ⟨_, rfl⟩
                have HX5 := Lib.hid (Box.newAt w4 ga hga (.int .i64 o1.k) (.int .i64 o1.s) (.int .i64 o1.z) (.int .u64 o1.zc) (.int .u64 o1.ct) (.int .i64 o1.sm) (.slice A4 o1.P.length c4) (.slice B4 o1.Q.length d4))
                have HS5 := Lib.hid (HS4.out.below hw)
                have HL5 := Lib.hid (HL4.out.below hw)
                rw [hga]
                clear hw hga HS4 HL4
                generalize w4.alloc (.cells #[.int .i64 o1.k, .int .i64 o1.s, .int .i64 o1.z, .int .u64 o1.zc, .int .u64 o1.ct, .int .i64 o1.sm, .slice A4 o1.P.length c4, .slice B4 o1.Q.length d4] 25) = w5 at *
                obtain ⟨M2, hM2⟩ : ∃ M : Nat, (kk : Int) - 2 = M := ⟨kk - 2, by have := HK3.out; omega⟩
                have hM0 : 0 < M2 := by have := HK3.out; omega
                have hM1 : ((M2 : Int) == 0) = false := by rw [beq_eq_false_iff_ne]; omega
                have hM3 : IntKind.i64.wrap (M2 : Int) = (M2 : Int) := by have := HKN.out; simp [IntKind.wrap, IntKind.signed, IntKind.bits] <;> (try split) <;> omega
                obtain ⟨R, hR⟩ : ∃ R : Nat, cut % (M2 : Int) = R := ⟨(cut % (M2 : Int)).toNat, (Int.toNat_of_nonneg (Int.emod_nonneg _ (by omega))).symm⟩
                have hR2 : (R : Int) < M2 := by rw [← hR]; exact Int.emod_lt_of_pos _ (by omega)
                obtain ⟨K, hK⟩ : ∃ K, R + 1 = K := ⟨_, rfl⟩
                obtain ⟨K1, hK1⟩ : ∃ K1, K + 1 = K1 := ⟨_, rfl⟩
                have hW1 : IntKind.i64.wrap (1 + (R : Int)) = (K : Int) := by have := HKN.out; simp [IntKind.wrap, IntKind.signed, IntKind.bits] <;> (try split) <;> omega
                have hW2 : IntKind.i64.wrap ((K : Int) + 1) = (K1 : Int) := by have := HKN.out; simp [IntKind.wrap, IntKind.signed, IntKind.bits] <;> (try split) <;> omega
                have hcK1 : (K1 : Int) ≤ (cap : Int) := by have := HCP.out; omega
                have hcK : ¬ cap = K := by have := HCP.out; omega
                have hcK2 : (K : Int) ≤ (kk : Int) := by omega
                obtain ⟨n3, hn3⟩ : ∃ n3, kk - K = n3 := ⟨_, rfl⟩
                obtain ⟨c3, hc3⟩ : ∃ c3, cap - K = c3 := ⟨_, rfl⟩
                have HKB := Lib.hid (show 1 ≤ K ∧ K + 1 = K1 ∧ K + 2 ≤ kk ∧ kk - K = n3 ∧ cap - K = c3 from by omega)
                clear hK hK1 hR2
                obtain ⟨q, hq⟩ := getElem?_lt (l := h :: tl) (k := K) (by have := HTL.out; have := HKB.out; simp; omega)
                have HQ := Lib.hid hq
                have HD := Lib.hid (show (h :: tl).drop K = q :: tl.drop K from drop_at' hq)
                clear hq
                go_wp2_with fail
                refine (rise_h g 0 cap K1 h (tl.take K) w5 (by have := HTL.out; have := HKB.out; rw [List.length_take]; omega) (by have := HCP.out; have := HKB.out; omega) (by have := HKB.out; omega) (by have := HL5.out.take (K + 1); rw [List.take_succ_cons] at this; exact this) (fun q hq => (HOA.out q (by rw [List.mem_cons] at hq ⊢; exact hq.imp id List.mem_of_mem_take)).1) (anyK_no fun q hq => (HOA.out q (by rw [List.mem_cons] at hq ⊢; exact hq.imp id List.mem_of_mem_take)).2)).mono ?_
                rintro e w6 ⟨o2, E2, hr2, A5, B5, c5, d5, rfl, hA, hB, hb6, _, _⟩
                simp only [hvA]
                have HR2 := Lib.hid hr2
                have HX6 := Lib.hid (HX5.out.below hb6)
                have HS6 := Lib.hid (HS5.out.below hb6)
                have HL6 := Lib.hid (HL5.out.below hb6)
                clear hr2 hA hB hb6 HX5 HS5 HL5
                go_upto_region 22 with fail
                have hw : Below w6.heap.size w6 (w6.alloc (.cells #[.int .i64 o2.k, .int .i64 o2.s, .int .i64 o2.z, .int .u64 o2.zc, .int .u64 o2.ct, .int .i64 o2.sm, .slice A5 o2.P.length c5, .slice B5 o2.Q.length d5] 25)) := (Below.refl _ _).alloc (Nat.le_refl _) _
                obtain ⟨gb, hgb⟩ : ∃ g, w6.heap.size = g := ⟨_, rfl⟩
                have HX7 := Lib.hid (And.intro (HX6.out.below hw) (Box.newAt w6 gb hgb (.int .i64 o2.k) (.int .i64 o2.s) (.int .i64 o2.z) (.int .u64 o2.zc) (.int .u64 o2.ct) (.int .i64 o2.sm) (.slice A5 o2.P.length c5) (.slice B5 o2.Q.length d5)))
                have HS7 := Lib.hid (HS6.out.below hw)
                have HL7 := Lib.hid (HL6.out.below hw)
                rw [hgb]
                clear hw hgb HS6 HL6 HX6
                generalize w6.alloc (.cells #[.int .i64 o2.k, .int .i64 o2.s, .int .i64 o2.z, .int .u64 o2.zc, .int .u64 o2.ct, .int .i64 o2.sm, .slice A5 o2.P.length c5, .slice B5 o2.Q.length d5] 25) = w7 at *
                go_wp2_with fail
                refine (rise_h g (K * 8) c3 n3 q (tl.drop K) w7 (by have := HTL.out; have := HKB.out; rw [List.length_drop]; omega) (by have := HCP.out; have := HKB.out; omega) (by have := HKB.out; omega) (by have := HL7.out.drop K; rw [HD.out, Nat.zero_add] at this; exact this) (fun y hy => (HOA.out y (by rw [← HD.out] at hy; exact List.mem_of_mem_drop hy)).1) (anyK_no fun y hy => (HOA.out y (by rw [← HD.out] at hy; exact List.mem_of_mem_drop hy)).2)).mono ?_
                rintro e w8 ⟨o3, E3, hr3, A6, B6, c6, d6, rfl, hA, hB, hb8, _, _⟩
                simp only [hvA]
                have HR3 := Lib.hid hr3
                have HX8 := Lib.hid (And.intro (HX7.out.1.below hb8) (HX7.out.2.below hb8))
                have HS8 := Lib.hid (HS7.out.below hb8)
                clear hr3 hA hB hb8 HX7 HS7 HL7
                go_upto_region 23 with fail
                have hw : Below w8.heap.size w8 (w8.alloc (.cells #[.int .i64 o3.k, .int .i64 o3.s, .int .i64 o3.z, .int .u64 o3.zc, .int .u64 o3.ct, .int .i64 o3.sm, .slice A6 o3.P.length c6, .slice B6 o3.Q.length d6] 25)) := (Below.refl _ _).alloc (Nat.le_refl _) _
                obtain ⟨gc, hgc⟩ : ∃ g, w8.heap.size = g := ⟨_, rfl⟩
                have HX9 := Lib.hid (And.intro (HX8.out.1.below hw) (And.intro (HX8.out.2.below hw) (Box.newAt w8 gc hgc (.int .i64 o3.k) (.int .i64 o3.s) (.int .i64 o3.z) (.int .u64 o3.zc) (.int .u64 o3.ct) (.int .i64 o3.sm) (.slice A6 o3.P.length c6) (.slice B6 o3.Q.length d6))))
                have HS9 := Lib.hid (HS8.out.below hw)
                rw [hgc]
                clear hw hgc HS8 HX8
                generalize w8.alloc (.cells #[.int .i64 o3.k, .int .i64 o3.s, .int .i64 o3.z, .int .u64 o3.zc, .int .u64 o3.ct, .int .i64 o3.sm, .slice A6 o3.P.length c6, .slice B6 o3.Q.length d6] 25) = w9 at *
                have d1 : E1 = 0 ∨ E1 ≠ 0 := Decidable.em _
                have d2 : E2 = 0 ∨ E2 ≠ 0 := Decidable.em _
                have d3 : E3 = 0 ∨ E3 ≠ 0 := Decidable.em _
                rcases d1 with h10 | h10
                rotate_left
                · have he1 : (E1 != 0) = true := by simpa using h10
                  clear h10
                  go_wp2_with fail
                  refine (awake07 w9).mono ?_
                  rintro e wz ⟨rfl, hbz⟩
                  have HBz := Lib.hid (HS9.out.bel.trans (hbz.mono HS9.out.bel.size))
                  clear hbz
                  go_wp2_with fail
                  go_ret
                  exact ⟨rfl, HBz.out⟩
                rcases d2 with h20 | h20
                rotate_left
                · have he1 : (E1 != 0) = false := by rw [h10]; rfl
                  clear h10
                  have he2 : (E2 != 0) = true := by simpa using h20
                  clear h20
                  go_wp2_with fail
                  refine (awake07 w9).mono ?_
                  rintro e wz ⟨rfl, hbz⟩
                  have HBz := Lib.hid (HS9.out.bel.trans (hbz.mono HS9.out.bel.size))
                  clear hbz
                  go_wp2_with fail
                  go_ret
                  exact ⟨rfl, HBz.out⟩
                rcases d3 with h30 | h30
                rotate_left
                · have he1 : (E1 != 0) = false := by rw [h10]; rfl
                  have he2 : (E2 != 0) = false := by rw [h20]; rfl
                  clear h10 h20
                  have he3 : (E3 != 0) = true := by simpa using h30
                  clear h30
                  go_wp2_with fail
                  refine (awake07 w9).mono ?_
                  rintro e wz ⟨rfl, hbz⟩
                  have HBz := Lib.hid (HS9.out.bel.trans (hbz.mono HS9.out.bel.size))
                  clear hbz
                  go_wp2_with fail
                  go_ret
                  exact ⟨rfl, HBz.out⟩
                subst h10 h20 h30
                have HLA := Lib.hid (more_last HNR.out HXX.out HQ.out HR1.out HR2.out HR3.out)
                have HO1 := Lib.hid (rise_ok HR1.out (empty_ok HO.out.s) rfl)
                go_wp2_with fail
                refine (awake07 w9).mono ?_
                rintro e wz ⟨rfl, hbz⟩
                have HBz := Lib.hid (HS9.out.bel.trans (hbz.mono HS9.out.bel.size))
                have HXz := Lib.hid (And.intro (HX9.out.1.below hbz) (And.intro (HX9.out.2.1.below hbz) (HX9.out.2.2.below hbz)))
                clear hbz HX9 HS9
                obtain ⟨x0, x1, x2, x3, x4, x5, x6, x7⟩ := HXz.out.1.cells
                obtain ⟨y0, y1, y2, y3, y4, y5, y6, y7⟩ := HXz.out.2.1.cells
                obtain ⟨z0, z1, z2, z3, z4, z5, z6, z7⟩ := HXz.out.2.2.cells
                have lx := HXz.out.1.lt
                have ly := HXz.out.2.1.lt
                have lz := HXz.out.2.2.lt
                have hz1 : o1.ct = x := HLA.out.1
                have hz2 : IntKind.u64.wrap (o2.ct + o3.ct) = x := by rw [HLA.out.2.1, IntKind.wrap_u64, hz1]; have := HO1.out.big; have := HO1.out.toGood; have h1 := this.zc; have h2 := this.nP.cnt; have h3 := this.nQ.cnt; have h4 := this.ct; omega
                have hz3 : IntKind.i64.wrap (o2.sm + o3.sm) = o1.sm := by rw [HLA.out.2.2]; have := HO1.out.sm; unfold inI64 at this; simp [IntKind.wrap, IntKind.signed, IntKind.bits] <;> (try split) <;> omega
                go_wp2_with fail
                go_ret
                exact ⟨rfl, HBz.out⟩
    · have hk1 : (h.k != 0) = true := by simpa using hk
      clear hk
      go_wp2_with fail
      refine (awake07 w1).mono ?_
      rintro e wz ⟨rfl, hbz⟩
      have HBz := Lib.hid (HB1.out.trans (hbz.mono HB1.out.size))
      clear hbz
      go_wp2_with fail
      go_ret
      exact ⟨rfl, HBz.out⟩
end Go.Proofs.Ytbibhjcmdehdbaa
