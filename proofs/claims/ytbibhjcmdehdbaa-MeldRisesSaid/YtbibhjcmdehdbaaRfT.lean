/- The law MeldRises: its walk. -/
import Derived.Test.YtbibhjcmdehdbaaRfS
import Derived.Deep.QuietTactic
import Derived.BigQuiet
import Derived.Lib.QuietBelow
namespace Go.Proofs.Ytbibhjcmdehdbaa
open Go.RowKit Go.Sort Go.Maps
set_option linter.unusedVariables false

theorem Hl.oks {w : World} {D : Option Addr} {hs : List HV} (h : Hl w D hs) (hsm : ∀ x ∈ hs, inI64 x.sm) (hR : rightF hs = true) : ∀ x ∈ hs, Ok x := fun x hx => by
  have h0 : 0 < hs.length := List.length_pos_of_mem hx
  obtain ⟨b, off, _, hc⟩ := h.some_ h0
  obtain ⟨j, hj, e⟩ := List.getElem_of_mem hx
  obtain ⟨A, B, c, d, _, hA, hB, z0, _⟩ := hc j x (by rw [List.getElem?_eq_getElem hj, e])
  exact fewB_ok (List.all_eq_true.1 hR x hx) z0 (hsm x hx) hA.2.1 hB.2.1
theorem Fr.ne {w00 w : World} {A : Option Addr} {l : List (Int × Int)} (h : Fr w00 w A l) {g : Nat} (h0 : w00.heap.size ≤ g) (h1 : g < w.heap.size) : l.length = 0 ∨ ∀ a, A = some a → a.block ≠ g := h.imp id fun k a ha => k a ha g h0 h1
set_option maxHeartbeats 4000000 in
set_option maxRecDepth 100000 in
theorem rises_walk (D : Option Addr) (n c0 : Nat) (hs : List HV) (w : World) (hn : n = hs.length) (hcap : n ≤ c0) (h : n ≤ 12 → Hl w D hs) (hsm : ∀ x ∈ hs, inI64 x.sm) :
    Calls Try.prog 4 #[.slice D n c0] w fun e w' => e = .returned (.bool true) ∧ Below w.heap.size w w' := by
  have HN := Lib.hid hn
  have HH0 := Lib.hid h
  have HS := Lib.hid hsm
  clear hn h hsm
  by_cases h12 : (12 : Int) < n
  · go_enter Try.func4, Try.ntmps4
    go_wp2_with fail
    refine (awake07 w).mono ?_
    rintro e wz ⟨rfl, hbz⟩
    have HBz := Lib.hid hbz
    clear hbz
    go_wp2_with fail
    go_ret
    exact ⟨rfl, HBz.out⟩
  · have HH := Lib.hid (HH0.out (by omega))
    clear HH0
    go_enter Try.func4, Try.ntmps4
    go_wp2_with fail
    refine (lright_any D n c0 hs w HN.out HH.out).mono ?_
    rintro e w1 ⟨rfl, hb1⟩
    have HB1 := Lib.hid hb1
    clear hb1
    rcases hR : rightF hs with _ | _
    · clear hR
      go_wp2_with fail
      refine (awake07 w1).mono ?_
      rintro e wz ⟨rfl, hbz⟩
      have HBz := Lib.hid (HB1.out.trans (hbz.mono HB1.out.size))
      clear hbz
      go_wp2_with fail
      go_ret
      exact ⟨rfl, HBz.out⟩
    · have HO := Lib.hid (HH.out.oks HS.out hR)
      clear hR
      go_wp2_with fail
      refine (rise_full D n c0 hs w w1 HB1.out HN.out hcap HH.out HO.out).mono ?_
      rintro e w2 ⟨o, E, hF, A1, B1, c1, d1, rfl, hA, hB, hb2, _, _⟩
      simp only [hvA]
      have HF := Lib.hid hF
      have HA1 := Lib.hid (And.intro hA hB)
      have HB2 := Lib.hid (HB1.out.trans (hb2.mono HB1.out.size))
      clear hF hA hB hb2
      go_upto_region 4 with fail
      have hw : Below w2.heap.size w2 (w2.alloc (.cells #[.int .i64 o.k, .int .i64 o.s, .int .i64 o.z, .int .u64 o.zc, .int .u64 o.ct, .int .i64 o.sm, .slice A1 o.P.length c1, .slice B1 o.Q.length d1] 25)) := (Below.refl _ _).alloc (Nat.le_refl _) _
      obtain ⟨gx, hgx⟩ : ∃ g, w2.heap.size = g := ⟨_, rfl⟩
      have HX3 := Lib.hid (Box.newAt w2 gx hgx (.int .i64 o.k) (.int .i64 o.s) (.int .i64 o.z) (.int .u64 o.zc) (.int .u64 o.ct) (.int .i64 o.sm) (.slice A1 o.P.length c1) (.slice B1 o.Q.length d1))
      have HA3 := Lib.hid (And.intro (HA1.out.1.below hw) (HA1.out.2.below hw))
      have HB3 := Lib.hid (HB2.out.trans (hw.mono HB2.out.size))
      have HGX := Lib.hid HB2.out.size
      rw [hgx] at HGX
      rw [hgx]
      clear hw hgx HA1
      generalize w2.alloc (.cells #[.int .i64 o.k, .int .i64 o.s, .int .i64 o.z, .int .u64 o.zc, .int .u64 o.ct, .int .i64 o.sm, .slice A1 o.P.length c1, .slice B1 o.Q.length d1] 25) = w3 at *
      go_wp2_with fail
      refine (refrise_full D n c0 hs w w3 HB3.out HN.out hcap HH.out HO.out).mono ?_
      rintro e w4 ⟨o', E', hF, A2, B2, c2, d2, rfl, hA, hB, hb4, _, _⟩
      obtain ⟨rfl, rfl⟩ := RiseF.unique HF.out hF
      simp only [hvA]
      have HX4 := Lib.hid (HX3.out.below hb4)
      have HA4 := Lib.hid (And.intro (And.intro (HA3.out.1.below hb4) (HA3.out.2.below hb4)) (And.intro hA hB))
      have HB4 := Lib.hid (HB3.out.trans (hb4.mono HB3.out.size))
      clear hF hA hB hb4 HX3 HA3
      go_upto_region 5 with fail
      have hw : Below w4.heap.size w4 (w4.alloc (.cells #[.int .i64 o.k, .int .i64 o.s, .int .i64 o.z, .int .u64 o.zc, .int .u64 o.ct, .int .i64 o.sm, .slice A2 o.P.length c2, .slice B2 o.Q.length d2] 25)) := (Below.refl _ _).alloc (Nat.le_refl _) _
      obtain ⟨gy, hgy⟩ : ∃ g, w4.heap.size = g := ⟨_, rfl⟩
      have HGY := Lib.hid HX4.out.lt
      rw [hgy] at HGY
      have HX5 := Lib.hid (And.intro (HX4.out.below hw) (Box.newAt w4 gy hgy (.int .i64 o.k) (.int .i64 o.s) (.int .i64 o.z) (.int .u64 o.zc) (.int .u64 o.ct) (.int .i64 o.sm) (.slice A2 o.P.length c2) (.slice B2 o.Q.length d2)))
      have HA5 := Lib.hid (And.intro (And.intro (HA4.out.1.1.below hw) (HA4.out.1.2.below hw)) (And.intro (HA4.out.2.1.below hw) (HA4.out.2.2.below hw)))
      have HB5 := Lib.hid (HB4.out.trans (hw.mono HB4.out.size))
      rw [hgy]
      clear hw hgy HX4 HA4
      generalize w4.alloc (.cells #[.int .i64 o.k, .int .i64 o.s, .int .i64 o.z, .int .u64 o.zc, .int .u64 o.ct, .int .i64 o.sm, .slice A2 o.P.length c2, .slice B2 o.Q.length d2] 25) = w5 at *
      obtain ⟨x0, x1, x2, x3, x4, x5, x6, x7⟩ := HX5.out.1.cells
      have lx := HX5.out.1.lt
      obtain ⟨y0, y1, y2, y3, y4, y5, y6, y7⟩ := HX5.out.2.cells
      have ly := HX5.out.2.lt
      go_wp2_with fail
      refine (rsame_h o o A1 B1 A2 B2 c1 d1 c2 d2 w5 HA5.out.1.1 HA5.out.1.2 HA5.out.2.1 HA5.out.2.2 rfl).mono ?_
      rintro e w6 ⟨rfl, hb6⟩
      have HX6 := Lib.hid (And.intro (HX5.out.1.below hb6) (HX5.out.2.below hb6))
      have HB6 := Lib.hid (HB5.out.trans (hb6.mono HB5.out.size))
      clear hb6 HX5 HA5 x0 x1 x2 x3 x4 x5 x6 x7 lx y0 y1 y2 y3 y4 y5 y6 y7 ly
      go_wp2_with fail
      refine (sum_full D n c0 hs w w6 HB6.out HN.out hcap HH.out HO.out).mono ?_
      rintro e w7 ⟨p, G, hF, A3, B3, c3, d3, rfl, hA, hB, hb7, fA, fB⟩
      simp only [hvA]
      have HS1 := Lib.hid hF
      have HX7 := Lib.hid (And.intro (HX6.out.1.below hb7) (HX6.out.2.below hb7))
      have HB7 := Lib.hid (HB6.out.trans (hb7.mono HB6.out.size))
      have HA7 := Lib.hid (And.intro hA hB)
      have HF7 := Lib.hid (And.intro (fA.ne HGX.out HX6.out.1.lt) (fB.ne HGX.out HX6.out.1.lt))
      have HFY := Lib.hid (And.intro (fA.ne (by have := HGX.out; have := HGY.out; omega) HX6.out.2.lt) (fB.ne (by have := HGX.out; have := HGY.out; omega) HX6.out.2.lt))
      clear hF hA hB hb7 fA fB HX6
      obtain ⟨x0, x1, x2, x3, x4, x5, x6, x7⟩ := HX7.out.1.cells
      obtain ⟨f0, f1, f2, f3, f4, f5, f6, f7⟩ := HX7.out.1.frozen
      have lx := HX7.out.1.lt
      go_upto_region 8 with fail
      clear x0 x1 x2 x3 x4 x5 x6 x7 f0 f1 f2 f3 f4 f5 f6 f7 lx
      have HX8 := Lib.hid (And.intro (HX7.out.1.put8 (.int .i64 p.k) (.int .i64 p.s) (.int .i64 p.z) (.int .u64 p.zc) (.int .u64 p.ct) (.int .i64 p.sm) (.slice A3 p.P.length c3) (.slice B3 p.Q.length d3)) (HX7.out.2.off8 (g' := gx) (by have := HGY.out; omega) (.int .i64 p.k) (.int .i64 p.s) (.int .i64 p.z) (.int .u64 p.zc) (.int .u64 p.ct) (.int .i64 p.sm) (.slice A3 p.P.length c3) (.slice B3 p.Q.length d3)))
      have HA8 := Lib.hid (And.intro (HA7.out.1.set8n HF7.out.1 (.int .i64 p.k) (.int .i64 p.s) (.int .i64 p.z) (.int .u64 p.zc) (.int .u64 p.ct) (.int .i64 p.sm) (.slice A3 p.P.length c3) (.slice B3 p.Q.length d3)) (HA7.out.2.set8n HF7.out.2 (.int .i64 p.k) (.int .i64 p.s) (.int .i64 p.z) (.int .u64 p.zc) (.int .u64 p.ct) (.int .i64 p.sm) (.slice A3 p.P.length c3) (.slice B3 p.Q.length d3)))
      have HB8 := Lib.hid (below_set8 (g := gx) HB7.out (by have := HGX.out; omega) (.int .i64 p.k) (.int .i64 p.s) (.int .i64 p.z) (.int .u64 p.zc) (.int .u64 p.ct) (.int .i64 p.sm) (.slice A3 p.P.length c3) (.slice B3 p.Q.length d3))
      generalize hW : ((((((((w7.setCell ⟨gx, 0, none⟩ (.int .i64 p.k)).setCell ⟨gx, 1, none⟩ (.int .i64 p.s)).setCell ⟨gx, 2, none⟩ (.int .i64 p.z)).setCell ⟨gx, 3, none⟩ (.int .u64 p.zc)).setCell ⟨gx, 4, none⟩ (.int .u64 p.ct)).setCell ⟨gx, 5, none⟩ (.int .i64 p.sm)).setCell ⟨gx, 6, none⟩ (.slice A3 p.P.length c3)).setCell ⟨gx, 7, none⟩ (.slice B3 p.Q.length d3)) = w8
      have hW' : set8 w7 gx (.int .i64 p.k) (.int .i64 p.s) (.int .i64 p.z) (.int .u64 p.zc) (.int .u64 p.ct) (.int .i64 p.sm) (.slice A3 p.P.length c3) (.slice B3 p.Q.length d3) = w8 := hW
      rw [hW'] at HX8 HA8 HB8
      clear hW hW' HX7 HA7 HF7
      go_wp2_with fail
      refine (refsum_full D n c0 hs w w8 HB8.out HN.out hcap HH.out HO.out).mono ?_
      rintro e w9 ⟨p', G', hF, A4, B4, c4, d4, rfl, hA, hB, hb9, fA, fB⟩
      obtain ⟨rfl, rfl⟩ := SumF.unique HS1.out hF
      simp only [hvA]
      have HX9 := Lib.hid (And.intro (HX8.out.1.below hb9) (HX8.out.2.below hb9))
      have HB9 := Lib.hid (HB8.out.trans (hb9.mono HB8.out.size))
      have HA9 := Lib.hid (And.intro (And.intro (HA8.out.1.below hb9) (HA8.out.2.below hb9)) (And.intro hA hB))
      have HF9 := Lib.hid (And.intro (fA.ne (by have := HGX.out; have := HGY.out; omega) HX8.out.2.lt) (fB.ne (by have := HGX.out; have := HGY.out; omega) HX8.out.2.lt))
      clear hF hA hB hb9 fA fB HX8 HA8
      obtain ⟨y0, y1, y2, y3, y4, y5, y6, y7⟩ := HX9.out.2.cells
      obtain ⟨f0, f1, f2, f3, f4, f5, f6, f7⟩ := HX9.out.2.frozen
      have ly := HX9.out.2.lt
      go_upto_region 9 with fail
      clear y0 y1 y2 y3 y4 y5 y6 y7 f0 f1 f2 f3 f4 f5 f6 f7 ly
      have HX10 := Lib.hid (And.intro (HX9.out.1.off8 (g' := gy) (by have := HGY.out; omega) (.int .i64 p.k) (.int .i64 p.s) (.int .i64 p.z) (.int .u64 p.zc) (.int .u64 p.ct) (.int .i64 p.sm) (.slice A4 p.P.length c4) (.slice B4 p.Q.length d4)) (HX9.out.2.put8 (.int .i64 p.k) (.int .i64 p.s) (.int .i64 p.z) (.int .u64 p.zc) (.int .u64 p.ct) (.int .i64 p.sm) (.slice A4 p.P.length c4) (.slice B4 p.Q.length d4)))
      have HA10 := Lib.hid (And.intro (And.intro (HA9.out.1.1.set8n HFY.out.1 (.int .i64 p.k) (.int .i64 p.s) (.int .i64 p.z) (.int .u64 p.zc) (.int .u64 p.ct) (.int .i64 p.sm) (.slice A4 p.P.length c4) (.slice B4 p.Q.length d4)) (HA9.out.1.2.set8n HFY.out.2 (.int .i64 p.k) (.int .i64 p.s) (.int .i64 p.z) (.int .u64 p.zc) (.int .u64 p.ct) (.int .i64 p.sm) (.slice A4 p.P.length c4) (.slice B4 p.Q.length d4))) (And.intro (HA9.out.2.1.set8n HF9.out.1 (.int .i64 p.k) (.int .i64 p.s) (.int .i64 p.z) (.int .u64 p.zc) (.int .u64 p.ct) (.int .i64 p.sm) (.slice A4 p.P.length c4) (.slice B4 p.Q.length d4)) (HA9.out.2.2.set8n HF9.out.2 (.int .i64 p.k) (.int .i64 p.s) (.int .i64 p.z) (.int .u64 p.zc) (.int .u64 p.ct) (.int .i64 p.sm) (.slice A4 p.P.length c4) (.slice B4 p.Q.length d4))))
      have HB10 := Lib.hid (below_set8 (g := gy) HB9.out (by have := HGX.out; have := HGY.out; omega) (.int .i64 p.k) (.int .i64 p.s) (.int .i64 p.z) (.int .u64 p.zc) (.int .u64 p.ct) (.int .i64 p.sm) (.slice A4 p.P.length c4) (.slice B4 p.Q.length d4))
      generalize hW : ((((((((w9.setCell ⟨gy, 0, none⟩ (.int .i64 p.k)).setCell ⟨gy, 1, none⟩ (.int .i64 p.s)).setCell ⟨gy, 2, none⟩ (.int .i64 p.z)).setCell ⟨gy, 3, none⟩ (.int .u64 p.zc)).setCell ⟨gy, 4, none⟩ (.int .u64 p.ct)).setCell ⟨gy, 5, none⟩ (.int .i64 p.sm)).setCell ⟨gy, 6, none⟩ (.slice A4 p.P.length c4)).setCell ⟨gy, 7, none⟩ (.slice B4 p.Q.length d4)) = w10
      have hW' : set8 w9 gy (.int .i64 p.k) (.int .i64 p.s) (.int .i64 p.z) (.int .u64 p.zc) (.int .u64 p.ct) (.int .i64 p.sm) (.slice A4 p.P.length c4) (.slice B4 p.Q.length d4) = w10 := hW
      rw [hW'] at HX10 HA10 HB10
      clear hW hW' HX9 HA9 HF9 HFY
      go_wp2_with fail
      refine (awake07 w10).mono ?_
      rintro e w11 ⟨rfl, hb11⟩
      have HX11 := Lib.hid (And.intro (HX10.out.1.below hb11) (HX10.out.2.below hb11))
      have HA11 := Lib.hid (And.intro (And.intro (HA10.out.1.1.below hb11) (HA10.out.1.2.below hb11)) (And.intro (HA10.out.2.1.below hb11) (HA10.out.2.2.below hb11)))
      have HB11 := Lib.hid (HB10.out.trans (hb11.mono HB10.out.size))
      clear hb11 HX10 HA10 HB10
      obtain ⟨x0, x1, x2, x3, x4, x5, x6, x7⟩ := HX11.out.1.cells
      have lx := HX11.out.1.lt
      obtain ⟨y0, y1, y2, y3, y4, y5, y6, y7⟩ := HX11.out.2.cells
      have ly := HX11.out.2.lt
      go_wp2_with fail
      refine (rsame_h p p A3 B3 A4 B4 c3 d3 c4 d4 w11 HA11.out.1.1 HA11.out.1.2 HA11.out.2.1 HA11.out.2.2 rfl).mono ?_
      rintro e w12 ⟨rfl, hb12⟩
      have HBz := Lib.hid (HB11.out.trans (hb12.mono HB11.out.size))
      clear hb12
      go_wp2_with fail
      go_ret
      exact ⟨rfl, HBz.out⟩
end Go.Proofs.Ytbibhjcmdehdbaa
