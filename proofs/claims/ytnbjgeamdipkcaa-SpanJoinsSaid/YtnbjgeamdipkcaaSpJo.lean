/- The law SpanJoins' walk: who has which, in a map. -/
import Derived.Test.YtnbjgeamdipkcaaSpD
import Derived.Test.YtnbjgeamdipkcaaSpHo
import Derived.Test.YtnbjgeamdipkcaaSpJm
namespace Go.Proofs.Ytnbjgeamdipkcaa
open Go.RowKit Go.Sort Go.Maps
set_option linter.unusedVariables false

/-- a map of ints of the call's own, which reads as f -/
def Mo (w wr : World) (b n : Nat) (f : Int → Int) : Prop := ∃ D : DataW Unit, wr.ownsMap Try.prog 3 (plainElem Try.prog 3) b n D ∧ Rd1 D f ∧ w.heap.size ≤ b ∧ Below w.heap.size w wr
theorem Mo.later {w wr w' : World} {b n : Nat} {f : Int → Int} (h : Mo w wr b n f) (hb : Below wr.heap.size wr w') : Mo w w' b n f := by
  obtain ⟨D, h1, h2, h3, h4⟩ := h
  exact ⟨D, h1.kept (row := none) ⟨hb.os, hb.tape, hb.output, hb.size, fun k hk _ => hb.block k hk⟩ (by simp), h2, h3, h4.trans (hb.mono h4.size)⟩
theorem risB_cnt {f : Int} {l cs : List Int} (h : ∀ y ∈ cs, 0 ≤ y) : ∀ p ∈ risB f l cs, 0 ≤ p.2 := by
  intro p hp
  unfold risB at hp
  obtain ⟨k, _, rfl⟩ := List.mem_map.1 hp
  simp only
  rw [List.getD_eq_getElem?_getD]
  cases hk : cs[k]? with
  | none => simp
  | some y => simpa using h y (List.mem_of_getElem? hk)
def JiRel (n : Nat) (wg : World) (i : Value) (wr : World) : Prop := ∃ k : Nat, k ≤ n ∧ i = .int .i64 k ∧ wr = wg
def JkRel (U : List Int) (X : List (Int × Int)) (Wt : List Int) (nU m : Nat) (wh : World) (s30 s31 i : Value) (wr : World) : Prop :=
  ∃ (k q n : Nat) (A : Option Addr) (c : Nat), k ≤ nU ∧ i = .int .i64 k ∧ q ≤ m ∧ s30 = .int .i64 q ∧ n = (fil (X.take q)).length ∧ s31 = .slice A n c ∧ wr.ownsRow wh.heap.size 41 2 (.slice A n c) n (twoC .u64 (fil (X.take q))) ∧ Jst U X Wt k q ∧ Below wh.heap.size wh wr
def JaRel (w : World) (b : Nat) (xs : List Int) (i : Value) (wr : World) : Prop := ∃ k : Nat, k ≤ xs.length ∧ i = .int .i64 k ∧ Mo w wr b k (fA (xs.take k))
def JbRel (w : World) (b m : Nat) (xs ys : List Int) (i : Value) (wr : World) : Prop := ∃ k : Nat, k ≤ ys.length ∧ i = .int .i64 k ∧ Mo w wr b (m + k) (fB xs (ys.take k))
def JrRel (w : World) (b r n : Nat) (D : DataW Unit) (f : Int → Int) (s : Value) (wr : World) : Prop :=
  ∃ (left : Lit → Bool) (cnt : Nat) (h : Bool), s = .bool h ∧ wr.ranges Try.prog 3 (plainElem Try.prog 3) b r n D left cnt ∧ (h = true ↔ ∀ z, f z = 2 → left (.int .i64 z) = true) ∧ Below w.heap.size w wr
theorem Mo.ext {w wr : World} {b n : Nat} {f g : Int → Int} (h : Mo w wr b n f) (e : ∀ x, f x = g x) : Mo w wr b n g := by
  obtain ⟨D, h1, h2, h3, h4⟩ := h
  exact ⟨D, h1, h2.ext e, h3, h4⟩
theorem below_grownBy {w w' : World} (h : Below w.heap.size w w') : w.grownBy w' none := ⟨h.os, h.tape, h.output, h.size, fun k hk _ => h.block k hk⟩
set_option maxHeartbeats 4000000 in
set_option maxRecDepth 100000 in
theorem joins_main (A B C : Option Addr) (ca cb cc : Nat) (a b cs : List Int) (f t : Int) (w : World) (hA : Cl w A (intsC .u8 a)) (hB : Cl w B (intsC .u8 b)) (hC : Cl w C (intsC .u64 cs)) (ba : ∀ x ∈ a, 0 ≤ x ∧ x ≤ 255) (bb : ∀ x ∈ b, 0 ≤ x ∧ x ≤ 255) (la : a.length ≤ 200) (lb : b.length ≤ 200) (hcl : cs.length ≤ 9223372036854775807) (bc : ∀ y ∈ cs, 0 ≤ y ∧ y ≤ 18446744073709551615) (f0 : -32768 ≤ f) (f1 : f ≤ 32767) (t0 : -32768 ≤ t) (t1 : t ≤ 32767) :
    Calls Try.prog 3 #[.slice A a.length ca, .slice B b.length cb, .int .i16 f, .int .i16 t, .slice C cs.length cc] w fun e w' => e = .returned (.bool true) ∧ Below w.heap.size w w' := by
  have HX := Lib.hid (rising_any A C ca cc f a cs w hA hC ba la hcl f0 f1)
  have HY := Lib.hid (fun W (hW : Below w.heap.size w W) => rising_any B C cb cc t b cs W (hB.below hW) (hC.below hW) bb lb hcl t0 t1)
  obtain ⟨ax, ix⟩ := risB_fine (f := f) (l := a) (cs := cs) (fun x hx => (ba x hx).1) la (by omega) (by omega)
  obtain ⟨ay, iy⟩ := risB_fine (f := t) (l := b) (cs := cs) (fun x hx => (bb x hx).1) lb (by omega) (by omega)
  have hcnt := risB_cnt (f := f) (l := a) (fun y hy => (bc y hy).1)
  have lX := risB_length f a cs
  have lY := risB_length t b cs
  obtain ⟨X, hX⟩ : ∃ X, risB f a cs = X := ⟨_, rfl⟩
  obtain ⟨Y, hY⟩ : ∃ Y, risB t b cs = Y := ⟨_, rfl⟩
  rw [hX] at HX ax ix lX hcnt
  have HCT := Lib.hid hcnt
  rw [hY] at HY ay iy lY
  obtain ⟨xs, hxs⟩ : ∃ xs, idsL X = xs := ⟨_, rfl⟩
  obtain ⟨ys, hys⟩ : ∃ ys, idsL Y = ys := ⟨_, rfl⟩
  have lxs : xs.length = a.length := by rw [← hxs, ← lX]; simp [idsL]
  have lys : ys.length = b.length := by rw [← hys, ← lY]; simp [idsL]
  rw [hxs] at ax ix
  rw [hys] at ay iy
  have HLX := Lib.hid (And.intro lX (And.intro lY (And.intro lxs lys)))
  have HAS := Lib.hid (And.intro ax (And.intro ay (And.intro ix iy)))
  have HID := Lib.hid (And.intro hxs hys)
  have hU := uni_uni xs ys
  have hsw := uni_swap xs ys
  obtain ⟨U, hUU⟩ : ∃ U, uni xs ys = U := ⟨_, rfl⟩
  have HUU := Lib.hid (And.intro hUU (hsw.trans hUU))
  rw [hUU] at hU
  have HU := Lib.hid hU
  have HUI := Lib.hid (hU.inb ix iy)
  clear hX hY hxs hys lxs lys ax ay ix iy hA hB hC ba bb hU hsw hUU lX lY hcnt bc
  have hmm := @run_makeMap Try.prog
  go_enter Try.func3, Try.ntmps3
  go_wp2_with fail
  refine HX.out.mono ?_
  rintro e w1 ⟨A1, c1, B1, d1, rfl, hca, hcb, hx1, hxi1, hb1⟩
  rw [HLX.out.1]
  have HX1 := Lib.hid (And.intro hx1 (And.intro hca (And.intro hcb hxi1)))
  have HB1 := Lib.hid hb1
  clear hx1 hb1 hca hcb hxi1
  go_wp2_with fail
  refine (HY.out w1 HB1.out).mono ?_
  rintro e w2 ⟨A2, c2, B2, d2, rfl, hca, hcb, hy2, hyi2, hb2⟩
  rw [HLX.out.2.1]
  have HXI2 := Lib.hid (show Cl w2 B1 (intsC .i64 xs) by rw [← HID.out.1]; exact HX1.out.2.2.2.below hb2)
  have HYI2 := Lib.hid (show Cl w2 B2 (intsC .i64 ys) by rw [← HID.out.2]; exact hyi2)
  have HY2 := Lib.hid hy2
  have HX2 := Lib.hid (HX1.out.1.below hb2)
  have HB2 := Lib.hid (HB1.out.trans (hb2.mono HB1.out.size))
  clear hy2 hb2 hca hcb hyi2
  obtain ⟨bm, hbm⟩ : ∃ g, w2.heap.size = g := ⟨_, rfl⟩
  have HM0 := Lib.hid (show Mo w2 (w2.alloc (.map #[] 0)) bm 0 (fA ([] : List Int)) from ⟨.map [], by rw [← hbm]; exact World.ownsMap_made _ _ _ _, Rd1.empty.ext fun x => by simp [fA], by omega, (Below.refl _ _).alloc (Nat.le_refl _) _⟩)
  have hBM := Lib.hid hbm
  clear hbm
  go_wp2_with fail
  simp only [hBM.out]
  clear hmm
  go_loopw [63] (fun i wr => JaRel w2 bm xs i wr) (fun i _ => a.length - (intOf i).toNat)
  case atStart => exact ⟨0, by omega, rfl, HM0.out⟩
  case round =>
    obtain ⟨k, hk, rfl, hM⟩ := hrel
    have HM := Lib.hid hM
    by_cases hlt : k < a.length
    · obtain ⟨x, hx⟩ := getElem?_lt (l := xs) (k := k) (by have := HLX.out.2.2.1; omega)
      obtain ⟨D, hown, hrd, hbb, hbl⟩ := hM
      obtain ⟨bx, ox, rfl, hcx⟩ := (HXI2.out.below hbl).ints (by have := HLX.out.2.2.1; omega)
      have hxc := hcx k x hx
      have hxb := HAS.out.2.2.1 x (mem_of_at hx)
      have hkey := keyOf_int_mk (P := Try.prog) (q := .i64) (a := x) Try.underlying3 (WalkArith.wf_i64 ⟨by omega, by omega⟩)
      have hfx := fA_new HAS.out.1 hx
      have HRD := Lib.hid hrd
      have HO := Lib.hid hown
      have HSN := Lib.hid (fun z => show (if z = x then 1 else fA (xs.take k) z) = fA (xs.take (k + 1)) z by rw [take_snoc xs k x hx, fA_snoc])
      have HFX := Lib.hid hfx
      have HBL := Lib.hid (And.intro hbb hbl)
      have hki : (k : Int) < (a.length : Int) := by omega
      have hk9 : k < maxLen := by unfold maxLen; omega
      clear hcx hx hown hrd hbb hbl hxb hfx
      go_wp2_with (at_lookup; refine wpList_lookup_own_int _ rfl _ _ _ rfl 3 3 .i64 lawI Try.underlying30 Try.underlying3 (zeroI _) bm k D rfl HO.out _ _ rfl hkey ?_)
      intro c hat hwc
      have hc0 : c = 0 := by
        have h1 := (HRD.out.2.1 x).1
        rw [hat, HFX.out] at h1
        simpa using h1
      subst hc0
      clear hat hwc
      have hor : bits .or .i64 0 1 = 1 := by decide
      go_wp2_with (at_mapUpdate; refine wpList_mapUpdate_own _ rfl _ _ _ _ rfl 3 3 lawI Try.underlying30 _ bm k D rfl HO.out hk9 _ _ _ rfl rfl hkey _ [] (plainElem_int Try.underlying3 (a := 1) (by decide)) ?_)
      intro w5 ho5 hg5
      have HM5 := Lib.hid (show Mo w2 w5 bm (k + 1) (fA (xs.take (k + 1))) from ⟨_, ho5, (HRD.out.put (by decide)).ext HSN.out, HBL.out.1, HBL.out.2.grown hg5 HBL.out.2.size (fun k hk => by cases hk; exact HBL.out.1)⟩)
      clear ho5 hg5
      go_wp2_with fail
      go_roundw
      case rel => exact ⟨k + 1, by have := HLX.out.2.2.1; omega, by go_num, HM5.out⟩
      case measure => simp [intOf]; omega
    · obtain rfl : k = a.length := by have := HLX.out.2.2.1; omega
      have hki : ¬ ((a.length : Int) < (a.length : Int)) := by omega
      have HMB := Lib.hid (show Mo w2 wr bm (a.length + 0) (fB xs (ys.take 0)) from hM.ext fun x => by rw [List.take_of_length_le (by have := HLX.out.2.2.1; omega), List.take_zero, fB_nil])
      clear hM HM
      go_wp2_with fail
      go_loopw [74] (fun i wr => JbRel w2 bm a.length xs ys i wr) (fun i _ => b.length - (intOf i).toNat)
      case atStart => exact ⟨0, by omega, rfl, HMB.out⟩
      case round =>
        obtain ⟨k, hk, rfl, hM⟩ := hrel
        have HM := Lib.hid hM
        by_cases hlt : k < b.length
        · obtain ⟨x, hx⟩ := getElem?_lt (l := ys) (k := k) (by have := HLX.out.2.2.2; omega)
          obtain ⟨D, hown, hrd, hbb, hbl⟩ := hM
          obtain ⟨bx, ox, rfl, hcx⟩ := (HYI2.out.below hbl).ints (by have := HLX.out.2.2.2; omega)
          have hxc := hcx k x hx
          have hxb := HAS.out.2.2.2 x (mem_of_at hx)
          have hkey := keyOf_int_mk (P := Try.prog) (q := .i64) (a := x) Try.underlying3 (WalkArith.wf_i64 ⟨by omega, by omega⟩)
          have hnew := asc_new HAS.out.2.1 hx
          have HFX := Lib.hid (fB_old (xs := xs) hnew)
          have HRD := Lib.hid hrd
          have HO := Lib.hid hown
          have HSN := Lib.hid (fun z => show (if z = x then fA xs x + 2 else fB xs (ys.take k) z) = fB xs (ys.take (k + 1)) z by rw [take_snoc ys k x hx, fB_snoc _ _ _ _ hnew])
          have HBL := Lib.hid (And.intro hbb hbl)
          have hki2 : (k : Int) < (b.length : Int) := by omega
          have hk9 : a.length + k < maxLen := by unfold maxLen; omega
          clear hcx hx hown hrd hbb hbl hxb hnew
          go_wp2_with (at_lookup; refine wpList_lookup_own_int _ rfl _ _ _ rfl 3 3 .i64 lawI Try.underlying30 Try.underlying3 (zeroI _) bm (a.length + k) D rfl HO.out _ _ rfl hkey ?_)
          intro c hat hwc
          have hc0 : c = fA xs x := by
            have h1 := (HRD.out.2.1 x).1
            rw [hat, HFX.out] at h1
            simpa using h1
          obtain ⟨v, hv, hv0⟩ : ∃ v, v = c + 2 ∧ (bits .or .i64 c 2 = v ∧ v ≠ 0 ∧ (Lit.int .i64 v).wf = true) := by
            rcases fA_cases xs x with h | h
            · exact ⟨2, by rw [hc0, h]; rfl, by rw [hc0, h]; decide, by decide, by decide⟩
            · exact ⟨3, by rw [hc0, h]; rfl, by rw [hc0, h]; decide, by decide, by decide⟩
          obtain ⟨hor, hvn, hvw⟩ := hv0
          have HV := Lib.hid (show fA xs x + 2 = v by rw [hv, hc0])
          have HVN := Lib.hid hvn
          clear hat hwc hc0 hv hvn
          go_wp2_with (at_mapUpdate; refine wpList_mapUpdate_own _ rfl _ _ _ _ rfl 3 3 lawI Try.underlying30 _ bm (a.length + k) D rfl HO.out hk9 _ _ _ rfl rfl hkey _ [] (plainElem_int Try.underlying3 (a := v) hvw) ?_)
          intro w5 ho5 hg5
          have HM5 := Lib.hid (show Mo w2 w5 bm (a.length + (k + 1)) (fB xs (ys.take (k + 1))) from ⟨_, ho5, (HRD.out.put HVN.out).ext (fun z => by rw [← HSN.out z, HV.out]), HBL.out.1, HBL.out.2.grown hg5 HBL.out.2.size (fun k hk => by cases hk; exact HBL.out.1)⟩)
          clear ho5 hg5 hor hvw
          go_wp2_with fail
          go_roundw
          case rel => exact ⟨k + 1, by have := HLX.out.2.2.2; omega, by go_num, HM5.out⟩
          case measure => simp [intOf]; omega
        · obtain rfl : k = b.length := by have := HLX.out.2.2.2; omega
          obtain ⟨wm, hwm⟩ : ∃ W, W = wr := ⟨_, rfl⟩
          subst hwm
          have hki2 : ¬ ((b.length : Int) < (b.length : Int)) := by omega
          obtain ⟨D, hown, hrd, hbb, hbl⟩ := hM
          rw [List.take_of_length_le (by have := HLX.out.2.2.2; omega)] at hrd
          have HO := Lib.hid hown
          have HRD := Lib.hid hrd
          have HBL := Lib.hid (And.intro hbb hbl)
          clear HM hown hrd hbb hbl
          go_wp2_with (refine wpList_range_own _ rfl _ _ rfl 3 3 lawI Try.underlying30 (plainElem Try.prog 3) bm (a.length + b.length) D rfl HO.out ?_)
          intro w4 hrg4 hg4 hs4
          obtain ⟨r, hr⟩ : ∃ r, wm.heap.size = r := ⟨_, rfl⟩
          have HRS := Lib.hid hr
          have hst : JrRel wm bm r (a.length + b.length) D (fB xs ys) (.bool true) w4 := by
            refine ⟨has D, size D, true, rfl, by rw [← hr]; exact hrg4, ?_, ?_⟩
            · exact ⟨fun _ z hz => (HRD.out.2.1 z).2.2 (by omega), fun _ => rfl⟩
            · exact (Below.refl wm.heap.size wm).grown hg4 (Nat.le_refl _) (fun k hk => by cases hk)
          have HST := Lib.hid hst
          rw [hr]
          clear hst hr hrg4 hg4 hs4
          go_wp2_with fail
          go_loopw [20] (fun s wr => JrRel wm bm r (a.length + b.length) D (fB xs ys) s wr) (fun _ wr => wr.rangeLeft bm r)
          case atStart => exact HST.out
          case round =>
            obtain ⟨left, cnt, h, rfl, hrng, hiff, hb⟩ := hrel
            have HB := Lib.hid hb
            have HI := Lib.hid hiff
            have HR := Lib.hid hrng
            clear hb hiff
            go_wp2_with (first
              | (at_next; refine wpList_next_ranges_ii _ rfl _ rfl 3 3 .i64 .i64 lawI Try.underlying3 Try.underlying3 bm r (a.length + b.length) D left cnt rfl hrng ?_ ?_))
            · intro _ hl0
              obtain ⟨v1, hv1⟩ : ∃ v, sameB U xs = v := ⟨_, rfl⟩
              have hh : h = v1 := by
                rw [← hv1, Bool.eq_iff_iff, HI.out, sameB_has HU.out HAS.out.1]
                refine ⟨fun e z hz => ?_, fun e z hz => absurd hz (e z)⟩
                have h1 := e z hz
                rw [hl0] at h1
                cases h1
              subst hh
              have HV1 := Lib.hid hv1
              obtain ⟨w3, hw3⟩ : ∃ W, W = wr := ⟨_, rfl⟩
              subst hw3
              have hb23 : Below w2.heap.size w2 w3 := HBL.out.2.trans (HB.out.mono HBL.out.2.size)
              have HX3 := Lib.hid (HX2.out.below hb23)
              have HY3 := Lib.hid (HY2.out.below hb23)
              have HB3 := Lib.hid (HB2.out.trans (hb23.mono HB2.out.size))
              have HO3 := Lib.hid hrng.owns
              have HSZ := Lib.hid (HRD.out.size_eq U (asc_nodup HU.out.1) (fun z => fB_uni HU.out z))
              clear hl0 hv1 hb23 hrng HI HR HB HRS HST
              go_wp2_with fail
              refine (of_at A1 a.length c1 X xs w3 HLX.out.1.symm HID.out.1 HX3.out HAS.out.1 HAS.out.2.2.1 (by rw [HLX.out.1]; omega)).mono ?_
              rintro e wa ⟨A3, c3, rfl, hp3, _, hba⟩
              have HPa := Lib.hid hp3
              have HXa := Lib.hid (HX3.out.below hba)
              have HYa := Lib.hid (HY3.out.below hba)
              have HBa := Lib.hid hba
              clear hp3 hba
              go_wp2_with fail
              refine (of_at A2 b.length c2 Y ys wa HLX.out.2.1.symm HID.out.2 HYa.out HAS.out.2.1 HAS.out.2.2.2 (by rw [HLX.out.2.1]; omega)).mono ?_
              rintro e wb ⟨A4, c4, rfl, hq4, _, hbb⟩
              obtain ⟨F1, hF1⟩ : ∃ F, fstL xs = F := ⟨_, rfl⟩
              obtain ⟨N1, hN1⟩ : ∃ M, (runsL xs).length = M := ⟨_, rfl⟩
              obtain ⟨F2, hF2⟩ : ∃ F, fstL ys = F := ⟨_, rfl⟩
              obtain ⟨N2, hN2⟩ : ∃ M, (runsL ys).length = M := ⟨_, rfl⟩
              rw [hF1, hN1, hF2, hN2]
              have HFN := Lib.hid (And.intro hF1.symm (And.intro hN1.symm (And.intro hF2.symm hN2.symm)))
              obtain ⟨wc, hwc⟩ : ∃ W, (wb.alloc (.cells #[.int .i64 F1, .slice A3 N1 c3] 33)).alloc (.cells #[.int .i64 F2, .slice A4 N2 c4] 33) = W := ⟨_, rfl⟩
              obtain ⟨gP, hgP⟩ : ∃ g, wb.heap.size = g := ⟨_, rfl⟩
              obtain ⟨gQ, hgQ⟩ : ∃ g, gP + 1 = g := ⟨_, rfl⟩
              have hbbc : Below wb.heap.size wb wc := by rw [← hwc]; exact ((Below.refl _ _).alloc (Nat.le_refl _) _).alloc (by simp) _
              have HPc := Lib.hid (show Ly wc A3 xs from (HPa.out.below hbb).below hbbc)
              have HQc := Lib.hid (show Ly wc A4 ys from hq4.below hbbc)
              have HXc := Lib.hid (show Cl wc A1 (twoC .u64 X) from (HXa.out.below hbb).below hbbc)
              have HB3c := Lib.hid (show Below w3.heap.size w3 wc from HBa.out.trans ((hbb.trans (hbbc.mono hbb.size)).mono HBa.out.size))
              have bP : wc.heap[gP]? = some (.cells #[.int .i64 F1, .slice A3 N1 c3] 33 (0, 0)) := by rw [← hwc, ← hgP]; exact alloc_21 _ _ _
              have bQ : wc.heap[gQ]? = some (.cells #[.int .i64 F2, .slice A4 N2 c4] 33 (0, 0)) := by rw [← hwc, ← hgQ, ← hgP]; exact alloc_22 _ _ _
              have HBP := Lib.hid (box2b bP)
              have HBQ := Lib.hid (box2b bQ)
              have hWW := Lib.hid hwc
              have hGP := Lib.hid hgP
              have hGQ := Lib.hid hgQ
              clear hq4 hbb hwc hgP hgQ hbbc bP bQ hF1 hN1 hF2 hN2
              go_wp2_with fail
              rw [hWW.out]
              simp only [hGP.out, hGQ.out]
              refine (join_at A3 A4 c3 c4 N1 N2 F1 F2 xs ys U wc HFN.out.1 HFN.out.2.2.1 HFN.out.2.1 HFN.out.2.2.2 HUU.out.1 HPc.out HQc.out HAS.out.1 HAS.out.2.1 HAS.out.2.2.1 HAS.out.2.2.2 (by have := HLX.out.2.2.1; omega) (by have := HLX.out.2.2.2; omega)).mono ?_
              rintro e wd ⟨A6, c6, rfl, hj6, _, hbd⟩
              obtain ⟨F3, hF3⟩ : ∃ F, fstL U = F := ⟨_, rfl⟩
              obtain ⟨N3, hN3⟩ : ∃ M, (runsL U).length = M := ⟨_, rfl⟩
              rw [hF3, hN3]
              have HFU := Lib.hid (And.intro hF3.symm hN3.symm)
              obtain ⟨we, hwe⟩ : ∃ W, wd.alloc (.cells #[.int .i64 F3, .slice A6 N3 c6] 33) = W := ⟨_, rfl⟩
              obtain ⟨gJ, hgJ⟩ : ∃ g, wd.heap.size = g := ⟨_, rfl⟩
              have hbde : Below wd.heap.size wd we := by rw [← hwe]; exact (Below.refl _ _).alloc (Nat.le_refl _) _
              have hbce : Below wc.heap.size wc we := hbd.trans (hbde.mono hbd.size)
              have HJe := Lib.hid (hj6.below hbde)
              have HBJ := Lib.hid (box2b (show we.heap[gJ]? = some (.cells #[.int .i64 F3, .slice A6 N3 c6] 33 (0, 0)) by rw [← hwe, ← hgJ]; exact heap_alloc_new wd _))
              have HBce := Lib.hid hbce
              have hWWe := Lib.hid hwe
              have hGJ := Lib.hid hgJ
              obtain ⟨p0, p1⟩ := HBP.out wd hbd
              obtain ⟨q0, q1⟩ := HBQ.out wd hbd
              have hpl := block_lt_of_cell p0
              have hql := block_lt_of_cell q0
              have lU4 : U.length ≤ 400 := by have := HU.out.2.2; have := HLX.out; omega
              obtain ⟨nU, hnU⟩ : ∃ n, U.length = n := ⟨_, rfl⟩
              have HNU := Lib.hid hnU
              clear hj6 hbd hwe hgJ hbde hbce hF3 hN3 hnU
              go_wp2_with fail
              rw [hWWe.out]
              simp only [hGJ.out]
              clear p0 p1 q0 q1 hpl hql
              refine (indices_at A6 nU c6 N3 F3 U we HNU.out.symm HFU.out.1 HFU.out.2 HJe.out HU.out.1 HUI.out (by omega)).mono ?_
              rintro e wf ⟨A7, c7, rfl, hi7, hbf⟩
              have hcf : Below wc.heap.size wc wf := HBce.out.trans (hbf.mono HBce.out.size)
              have h3f : Below w3.heap.size w3 wf := HB3c.out.trans (hcf.mono HB3c.out.size)
              have HPf := Lib.hid (HPc.out.below hcf)
              have HQf := Lib.hid (HQc.out.below hcf)
              have HXf := Lib.hid (HXc.out.below hcf)
              have HJf := Lib.hid (HJe.out.below hbf)
              have HIf := Lib.hid hi7
              have HBf := Lib.hid (HB3.out.trans (h3f.mono HB3.out.size))
              have HBPf := Lib.hid (fun W (hW : Below wf.heap.size wf W) => HBP.out W (hcf.trans (hW.mono hcf.size)))
              have HBQf := Lib.hid (fun W (hW : Below wf.heap.size wf W) => HBQ.out W (hcf.trans (hW.mono hcf.size)))
              have HBJf := Lib.hid (fun W (hW : Below wf.heap.size wf W) => HBJ.out W (hbf.trans (hW.mono hbf.size)))
              have HOf := Lib.hid (fun W (hW : Below wf.heap.size wf W) => HO3.out.kept (below_grownBy (h3f.trans (hW.mono h3f.size))) (by simp))
              clear hi7 hbf hcf h3f
              go_wp2_with fail
              have HC1 := Lib.hid (fun W (hW : Below wf.heap.size wf W) => has_at A3 A4 c3 c4 N1 N2 F1 F2 xs ys h W HFN.out.1 HFN.out.2.2.1 HFN.out.2.1 HFN.out.2.2.2 (by unfold hasB; rw [HUU.out.1]; exact HV1.out) (HPf.out.below hW) (HQf.out.below hW) HAS.out.1 HAS.out.2.1 HAS.out.2.2.1 HAS.out.2.2.2 (by have := HLX.out.2.2.1; omega) (by have := HLX.out.2.2.2; omega))
              have hux : hasB U xs = true := by unfold hasB; rw [((Uni.has (uni_uni U xs) HU.out.1).2 (fun y hy => (HU.out.2.1 y).2 (.inl hy)))]; exact sameB_self U
              have huy : hasB U ys = true := by unfold hasB; rw [((Uni.has (uni_uni U ys) HU.out.1).2 (fun y hy => (HU.out.2.1 y).2 (.inr hy)))]; exact sameB_self U
              have HC2 := Lib.hid (fun W (hW : Below wf.heap.size wf W) => has_at A6 A3 c6 c3 N3 N1 F3 F1 U xs true W HFU.out.1 HFN.out.1 HFU.out.2 HFN.out.2.1 hux (HJf.out.below hW) (HPf.out.below hW) HU.out.1 HAS.out.1 HUI.out HAS.out.2.2.1 (by omega) (by have := HLX.out.2.2.1; omega))
              have HC3 := Lib.hid (fun W (hW : Below wf.heap.size wf W) => has_at A6 A4 c6 c4 N3 N2 F3 F2 U ys true W HFU.out.1 HFN.out.2.2.1 HFU.out.2 HFN.out.2.2.2 huy (HJf.out.below hW) (HQf.out.below hW) HU.out.1 HAS.out.2.1 HUI.out HAS.out.2.2.2 (by omega) (by have := HLX.out.2.2.2; omega))
              have HC4 := Lib.hid (fun W (hW : Below wf.heap.size wf W) => show Calls Try.prog 9 #[.agg #[.int .i64 F2, .slice A4 N2 c4], .agg #[.int .i64 F1, .slice A3 N1 c3]] W (fun e w' => ∃ A c, e = .returned (.agg #[.int .i64 F3, .slice A N3 c]) ∧ Ly w' A U ∧ Below W.heap.size W w') from by
                refine (join_at A4 A3 c4 c3 N2 N1 F2 F1 ys xs U W HFN.out.2.2.1 HFN.out.1 HFN.out.2.2.2 HFN.out.2.1 HUU.out.2 (HQf.out.below hW) (HPf.out.below hW) HAS.out.2.1 HAS.out.1 HAS.out.2.2.2 HAS.out.2.2.1 (by have := HLX.out.2.2.2; omega) (by have := HLX.out.2.2.1; omega)).mono ?_
                rintro e w' ⟨A, c, rfl, h1, _, h3⟩
                exact ⟨A, c, by rw [HFU.out.1, HFU.out.2], h1, h3⟩)
              have HC5 := Lib.hid (fun W A c (hW : Below wf.heap.size wf W) (hl : Ly W A U) => same_at A6 A c6 c N3 N3 F3 F3 U U true W HFU.out.1 HFU.out.1 HFU.out.2 HFU.out.2 (sameB_self U) (HJf.out.below hW) hl (by omega) (by omega))
              have HLEN := Lib.hid (fun W (hW : Below wf.heap.size wf W) ty => show (Builtin.len_ #[30] ty #[.map (some bm)]).run Try.prog W = .ok (.int .i64 (nU : Int)) W from by
                have := (HOf.out W hW).len Try.underlying30 ty
                rw [HSZ.out, HNU.out] at this
                exact this)
              obtain ⟨x0, x1⟩ := HBPf.out wf (Below.refl _ _)
              obtain ⟨y0, y1⟩ := HBQf.out wf (Below.refl _ _)
              obtain ⟨z0, z1⟩ := HBJf.out wf (Below.refl _ _)
              have HK := Lib.hid (fun W W' (hW : Below wf.heap.size wf W) (hb : Below W.heap.size W W') => show Below wf.heap.size wf W' ∧ (W'.cell? ⟨gP, 0, none⟩ = some (.int .i64 F1) ∧ W'.cell? ⟨gP, 1, none⟩ = some (.slice A3 N1 c3)) ∧ (W'.cell? ⟨gQ, 0, none⟩ = some (.int .i64 F2) ∧ W'.cell? ⟨gQ, 1, none⟩ = some (.slice A4 N2 c4)) ∧ (W'.cell? ⟨gJ, 0, none⟩ = some (.int .i64 F3) ∧ W'.cell? ⟨gJ, 1, none⟩ = some (.slice A6 N3 c6)) ∧ (∀ ty, (Builtin.len_ #[30] ty #[.map (some bm)]).run Try.prog W' = .ok (.int .i64 (nU : Int)) W') from
                have h := hW.trans (hb.mono hW.size)
                ⟨h, HBPf.out W' h, HBQf.out W' h, HBJf.out W' h, HLEN.out W' h⟩)
              clear hux huy
              go_cut [134] from 135 (fun s134 wx => HcRel wf s134 wx)
              case first =>
                go_region_held3 (fun W' => Below wf.heap.size wf W' ∧ (W'.cell? ⟨gP, 0, none⟩ = some (.int .i64 F1) ∧ W'.cell? ⟨gP, 1, none⟩ = some (.slice A3 N1 c3)) ∧ (W'.cell? ⟨gQ, 0, none⟩ = some (.int .i64 F2) ∧ W'.cell? ⟨gQ, 1, none⟩ = some (.slice A4 N2 c4)) ∧ (W'.cell? ⟨gJ, 0, none⟩ = some (.int .i64 F3) ∧ W'.cell? ⟨gJ, 1, none⟩ = some (.slice A6 N3 c6)) ∧ (∀ ty, (Builtin.len_ #[30] ty #[.map (some bm)]).run Try.prog W' = .ok (.int .i64 (nU : Int)) W'))
                  (first | assumption | exact HK.out wf _ (Below.refl _ _) ((Below.refl _ _).drew) | exact HK.out _ _ (And.left (by assumption)) (by assumption))
                  (first
                    | (go_at_call 11; first
                      | ((with_reducible refine (HC1.out _ (And.left (by assumption))).mono ?_); rintro e w9 ⟨rfl, hb9⟩)
                      | ((with_reducible refine (HC2.out _ (And.left (by assumption))).mono ?_); rintro e w9 ⟨rfl, hb9⟩)
                      | ((with_reducible refine (HC3.out _ (And.left (by assumption))).mono ?_); rintro e w9 ⟨rfl, hb9⟩))
                    | (go_at_call 9; ((with_reducible refine (HC4.out _ (And.left (by assumption))).mono ?_); rintro e w9 ⟨A9, c9, rfl, hl9, hb9⟩))
                    | (go_at_call 12; ((with_reducible refine (HC5.out _ _ _ (And.left (by assumption)) (by assumption)).mono ?_); rintro e w9 ⟨rfl, hb9⟩)))
                all_goals (go_wp2_with fail)
                all_goals go_meet
                all_goals exact ⟨rfl, And.left (by assumption)⟩
              case rest =>
                obtain ⟨rfl, hb⟩ := hcut
                obtain ⟨wg, hwg, hb⟩ : ∃ W, W = _ ∧ Below wf.heap.size wf W := ⟨_, rfl, hb⟩
                subst hwg
                have HB := Lib.hid hb
                have HIg := Lib.hid (HIf.out.below hb)
                have HOg := Lib.hid (HOf.out _ hb)
                clear hb x0 x1 y0 y1 z0 z1 HC1 HC2 HC3 HC4 HC5 HK
                go_wp2_with fail
                go_loopw [137] (fun i wr => JiRel nU wg i wr) (fun i _ => nU - (intOf i).toNat)
                case atStart => exact ⟨0, by omega, rfl, rfl⟩
                case round =>
                  obtain ⟨k, hk, rfl, hww⟩ := hrel
                  subst hww
                  by_cases hlt : k < nU
                  · obtain ⟨x, hx⟩ := getElem?_lt (l := U) (k := k) (by have := HNU.out; omega)
                    obtain ⟨bx, ox, rfl, hcx⟩ := HIg.out.ints (by have := HNU.out; omega)
                    have hxc := hcx k x hx
                    have hxb := HUI.out x (mem_of_at hx)
                    have hkey := keyOf_int_mk (P := Try.prog) (q := .i64) (a := x) Try.underlying3 (WalkArith.wf_i64 ⟨by omega, by omega⟩)
                    have HNZ := Lib.hid ((fB_uni HU.out x).2 (mem_of_at hx))
                    have hki3 : (k : Int) < (nU : Int) := by omega
                    by_cases hk0 : k = 0
                    · have hk0' : decide (0 < k) = false := by rw [hk0]; rfl
                      have hk0n : ¬ 0 < k := by rw [hk0]; decide
                      clear hcx hx hxb hk0
                      go_wp2_with (at_lookup; refine wpList_lookup_own_int _ rfl _ _ _ rfl 3 3 .i64 lawI Try.underlying30 Try.underlying3 (zeroI _) bm (a.length + b.length) D rfl HOg.out _ _ rfl hkey ?_)
                      intro c hat hwc
                      have hcz : (c == 0) = false := by
                        have h1 := (HRD.out.2.1 x).1
                        rw [hat] at h1
                        have h2 := HNZ.out
                        simp at h1
                        simp
                        omega
                      clear hat hwc
                      go_wp2_with fail
                      go_roundw
                      case rel => exact ⟨k + 1, by omega, by go_num, rfl⟩
                      case measure => simp [intOf]; omega
                    · obtain ⟨k', rfl⟩ : ∃ k', k = k' + 1 := ⟨k - 1, by omega⟩
                      obtain ⟨y, hy⟩ := getElem?_lt (l := U) (k := k') (by have := HNU.out; omega)
                      have hyc := hcx k' y hy
                      have hyx : y < x := by
                        obtain ⟨h1, rfl⟩ := List.getElem?_eq_some_iff.1 hy
                        obtain ⟨h2, rfl⟩ := List.getElem?_eq_some_iff.1 hx
                        exact (List.pairwise_iff_getElem.1 HU.out.1) k' (k' + 1) h1 h2 (by omega)
                      have hyx' : decide (x ≤ y) = false := by simp; omega
                      have hk0' : (0 : Int) < (k' : Int) + 1 := by omega
                      have hkn : (k' : Int) < (nU : Int) := by omega
                      have hkb : (k' : Int) ≤ 400 := by have := HNU.out; omega
                      clear hcx hx hxb hk0 hy
                      go_wp2_with (at_lookup; refine wpList_lookup_own_int _ rfl _ _ _ rfl 3 3 .i64 lawI Try.underlying30 Try.underlying3 (zeroI _) bm (a.length + b.length) D rfl HOg.out _ _ rfl hkey ?_)
                      intro c hat hwc
                      have hcz : (c == 0) = false := by
                        have h1 := (HRD.out.2.1 x).1
                        rw [hat] at h1
                        have h2 := HNZ.out
                        simp at h1
                        simp
                        omega
                      clear hat hwc
                      go_wp2_with fail
                      go_roundw
                      case rel => exact ⟨k' + 1 + 1, by omega, by go_num, rfl⟩
                      case measure => simp [intOf]; omega
                  · obtain rfl : k = nU := by omega
                    have hki3 : ¬ ((k : Int) < (k : Int)) := by omega
                    have hk4 : k ≤ 400 := by have := HNU.out; omega
                    obtain ⟨z2, z3⟩ := HBJf.out _ HB.out
                    go_wp2_with fail
                    refine (counts_at A6 A1 c6 N3 c1 k a.length F3 U X wr HNU.out.symm HFU.out.1 HFU.out.2 HLX.out.1.symm (HJf.out.below HB.out) HU.out.1 HUI.out (by omega) (HXf.out.below HB.out) (by have := HX1.out.2.1; rw [HLX.out.1] at this; exact this) HX1.out.2.2.1).mono ?_
                    rintro e wh ⟨g, rfl, hch, hbh⟩
                    have hax : Asc (idsL X) := by rw [HID.out.1]; exact HAS.out.1
                    have hsub : ∀ i ∈ idsL X, i ∈ U := fun i hi => by rw [HID.out.1] at hi; exact (HU.out.2.1 i).2 (.inl hi)
                    obtain ⟨Wt, hWt⟩ : ∃ Wt, wantF U X = Wt := ⟨_, rfl⟩
                    have HWT := Lib.hid hWt
                    have hcw : cntF U X = Wt := by rw [cntF_want U X HU.out.1 hax hsub, hWt]
                    have HWL := Lib.hid (show Wt.length = k by rw [← hcw, cntF_length]; exact HNU.out)
                    have HBW := Lib.hid (show bktF U Wt = fil X by rw [← hWt]; exact bkt_want U X HU.out.1 hax hsub)
                    rw [hcw] at hch
                    have HCh := Lib.hid hch
                    have HBh := Lib.hid (HB.out.trans (hbh.mono HB.out.size))
                    have HXh := Lib.hid (HXf.out.below HBh.out)
                    have HIh := Lib.hid (HIf.out.below HBh.out)
                    have HAX := Lib.hid hax
                    have HJ0 := Lib.hid (show JkRel U X Wt k a.length wh (.int .i64 0) (.slice none 0 0) (.int .i64 0) wh from ⟨0, 0, 0, none, 0, by omega, rfl, by omega, rfl, rfl, rfl, World.ownsRow_nil _ _ _ _, ⟨by simpa using hWt, fun i hi => by simpa using hsub i (by simpa using hi)⟩, Below.refl _ _⟩)
                    clear hch hbh hax hsub hWt hcw z2 z3
                    go_wp2_with fail
                    go_loopw [30, 31, 170] (fun s30 s31 i wr => JkRel U X Wt k a.length wh s30 s31 i wr) (fun _ _ i _ => k - (intOf i).toNat)
                    case atStart => exact HJ0.out
                    case round =>
                      obtain ⟨j, q, n, A9, c9, hj, rfl, hq, rfl, hn, rfl, ho, hJ, hb⟩ := hrel
                      have HO := Lib.hid ho
                      have HB9 := Lib.hid hb
                      have HN9 := Lib.hid hn
                      have HJ := Lib.hid hJ
                      by_cases hlt : j < k
                      · obtain ⟨x, hx⟩ := getElem?_lt (l := U) (k := j) (by have := HNU.out; omega)
                        obtain ⟨bx, ox, rfl, hcx⟩ := (HIh.out.below hb).ints (by have := HNU.out; omega)
                        have hxc := hcx j x hx
                        obtain ⟨wv, hwv⟩ := getElem?_lt (l := Wt) (k := j) (by rw [HWL.out]; exact hlt)
                        obtain ⟨b2', o2, e2, h2⟩ := HCh.out.ints (by rw [HWL.out]; omega)
                        obtain ⟨rfl, rfl⟩ : g = b2' ∧ 0 = o2 := by simpa using e2
                        have hwch := h2 j wv hwv
                        rw [Nat.zero_add] at hwch
                        have hwc := Kept.of_below hb _ _ hwch
                        have HWC := Lib.hid hwch
                        clear hwch
                        have hji : (j : Int) < (k : Int) := by omega
                        have hsz := hb.size
                        have hqle := fil_le (X.take q)
                        have hqt := List.length_take_le q X
                        have hn9 : n + 1 ≤ 1000000 := by omega
                        clear e2 h2 hcx hqle hqt ho hb hn
                        by_cases hqa : q < a.length
                        · obtain ⟨p, hp⟩ := getElem?_lt (l := X) (k := q) (by have := HLX.out.1; omega)
                          obtain ⟨b1', o1, rfl, h1⟩ := (HXh.out.below HB9.out).twos (by have := HLX.out.1; omega)
                          obtain ⟨p1, p2⟩ := h1 q p hp
                          have hqi : (q : Int) < (a.length : Int) := by omega
                          have hp0 := HCT.out p (mem_of_at hp)
                          have HFS := Lib.hid (fil_snoc hp)
                          by_cases hpe : p.1 = x
                          · obtain ⟨hw1, hJ2⟩ := hJ.take hx hp hpe HAX.out
                            have hwe : wv = p.2 := by rw [hwv] at hw1; simpa using hw1
                            have HJ2 := Lib.hid hJ2
                            obtain ⟨pi, pc⟩ := p
                            simp only at p1 p2 hp0 HFS hpe hwe
                            subst hpe hwe
                            have hee : (pi == pi) = true := by simp
                            have hnn : (wv != wv) = false := by simp
                            by_cases hz : wv = 0
                            · have hz' : decide (0 < wv) = false := by simp; omega
                              have HNX := Lib.hid (show JkRel U X Wt k a.length wh (.int .i64 ((q : Int) + 1)) (.slice A9 n c9) (.int .i64 ((j + 1 : Nat) : Int)) wr from by
                                have h := HFS.out
                                rw [if_pos hz, List.append_nil] at h
                                exact ⟨j + 1, q + 1, n, A9, c9, by omega, rfl, by omega, by go_num, by rw [h]; exact HN9.out, rfl, by rw [h]; exact HO.out, HJ2.out, HB9.out⟩)
                              clear hx hp h1 hwv hJ hw1 hJ2 hz
                              go_wp2_with fail
                              go_roundw
                              case rel => exact HNX.out
                              case measure => simp [intOf]; omega
                            · have hz' : decide (0 < wv) = true := by simp; omega
                              have HFS2 := Lib.hid (show fil (X.take (q + 1)) = fil (X.take q) ++ [(pi, wv)] by rw [HFS.out, if_neg hz])
                              clear hx hp h1 hwv hJ hw1 hJ2 hz
                              go_wp2_with (at_builtin; refine app_bkt rfl _ _ rfl wh.heap.size _ _ _ _ rfl (HO.out.alloc _) _ rfl (pi, wv) (new_two _ _ _ _).1 (new_two _ _ _ _).2 hn9 ?d1 ?_)
                              case d1 => (first | omega | (simp; omega))
                              intro A10 c10 w10 ho10 hg10
                              have HNX := Lib.hid (show JkRel U X Wt k a.length wh (.int .i64 ((q : Int) + 1)) (.slice A10 (n + 1) c10) (.int .i64 ((j + 1 : Nat) : Int)) w10 from
                                ⟨j + 1, q + 1, n + 1, A10, c10, by omega, rfl, by omega, by go_num, by rw [HFS2.out, List.length_append, ← HN9.out]; rfl, rfl, by rw [HFS2.out]; exact ho10, HJ2.out, below_app HB9.out hsz HO.out (Nat.le_refl _) hg10⟩)
                              have hwc10 : w10.cell? ⟨g, j, none⟩ = some (.int .u64 wv) := Kept.of_below (below_app HB9.out hsz HO.out (Nat.le_refl _) hg10) _ _ HWC.out
                              clear ho10 hg10
                              go_wp2_with fail
                              go_roundw
                              case rel => exact HNX.out
                              case measure => simp [intOf]; omega
                          · obtain ⟨hw1, hJ2⟩ := hJ.skip hx hp hpe HAX.out HU.out.1
                            have hwe : wv = 0 := by rw [hwv] at hw1; simpa using hw1
                            have hpe' : (p.1 == x) = false := by simpa using hpe
                            subst hwe
                            have HNX := Lib.hid (show JkRel U X Wt k a.length wh (.int .i64 (q : Int)) (.slice A9 n c9) (.int .i64 ((j + 1 : Nat) : Int)) wr from
                              ⟨j + 1, q, n, A9, c9, by omega, rfl, hq, rfl, HN9.out, rfl, HO.out, hJ2, HB9.out⟩)
                            obtain ⟨pi, pc⟩ := p
                            simp only at p1 p2 hpe'
                            clear hx hp h1 hwv hJ hw1 hJ2 hpe HFS
                            go_wp2_with fail
                            go_roundw
                            case rel => exact HNX.out
                            case measure => simp [intOf]; omega
                        · obtain ⟨hw1, hJ2⟩ := hJ.none hx (by have := HLX.out.1; omega)
                          have hwe : wv = 0 := by rw [hwv] at hw1; simpa using hw1
                          subst hwe
                          have hqi : ¬ ((q : Int) < (a.length : Int)) := by omega
                          have hqd : decide ((q : Int) < (a.length : Int)) = false := by simp; omega
                          have HNX := Lib.hid (show JkRel U X Wt k a.length wh (.int .i64 (q : Int)) (.slice A9 n c9) (.int .i64 ((j + 1 : Nat) : Int)) wr from
                            ⟨j + 1, q, n, A9, c9, by omega, rfl, hq, rfl, HN9.out, rfl, HO.out, hJ2, HB9.out⟩)
                          clear hx hwv hJ hw1 hJ2
                          go_wp2_with fail
                          go_roundw
                          case rel => exact HNX.out
                          case measure => simp [intOf]; omega
                      · obtain rfl : j = k := by omega
                        have hki4 : ¬ ((j : Int) < (j : Int)) := by omega
                        have hqa : q = a.length := by have h1 := hJ.done (by have := HNU.out; omega); have := HLX.out.1; omega
                        have hall : fil (X.take q) = fil X := by rw [List.take_of_length_le (by have := HLX.out.1; omega)]
                        rw [hall] at ho hn
                        have HOf2 := Lib.hid (own_cl ho)
                        have HNf := Lib.hid hn
                        have HB9f := Lib.hid (HBh.out.trans (hb.mono HBh.out.size))
                        obtain ⟨z2, z3⟩ := HBJf.out _ HB9f.out
                        have hn9 : n ≤ 1000 := by have := fil_le X; have := HLX.out.1; omega
                        have HBwr := Lib.hid hb
                        clear ho hn hb hJ hall hqa HO HB9 HN9 HJ
                        go_wp2_with fail
                        refine (buckets_at A6 (some ⟨g, 0, none⟩) c6 N3 j j j F3 U Wt wr HWL.out.symm HNU.out.symm HFU.out.1 HFU.out.2 (HJf.out.below HB9f.out) HU.out.1 HUI.out (by omega) (HCh.out.below HBwr.out) (by omega)).mono ?_
                        rintro e wk ⟨Ab, cb2, rfl, hbk, hbb⟩
                        rw [HBW.out] at hbk ⊢
                        rw [← HNf.out]
                        have HBk := Lib.hid hbk
                        have HOk := Lib.hid (HOf2.out.below hbb)
                        have HBkk := Lib.hid (HB9f.out.trans (hbb.mono HB9f.out.size))
                        have hgd := guardB
                        clear hbk hbb z2 z3 HOf2
                        go_wp2_with fail
                        go_loopw [221] (fun i wr => HoRel n wk i wr) (fun i _ => n - (intOf i).toNat)
                        case atStart => exact ⟨0, by omega, rfl, 0, rfl⟩
                        case round =>
                          obtain ⟨i9, hi9, rfl, nd, rfl⟩ := hrel
                          by_cases hlt : i9 < n
                          · obtain ⟨b1', o1, rfl, h1⟩ := HBk.out.twos (by rw [← HNf.out]; omega)
                            obtain ⟨b2', o2, rfl, h2⟩ := HOk.out.twos (by rw [← HNf.out]; omega)
                            obtain ⟨p, hp⟩ := getElem?_lt (l := fil X) (k := i9) (by rw [← HNf.out]; exact hlt)
                            obtain ⟨p1, p2⟩ := h1 i9 p hp
                            obtain ⟨r1, r2⟩ := h2 i9 p hp
                            obtain ⟨pi, pc⟩ := p
                            simp only at p1 p2 r1 r2
                            have hne := neqB pi pc pi pc
                            simp only [beq_self_eq_true, Bool.and_self, Bool.not_true] at hne
                            have hii : (i9 : Int) < (n : Int) := by omega
                            clear h1 h2 hp
                            go_wp2_with fail
                            go_quiet (fail)
                            go_wp2_with fail
                            go_roundw
                            case rel => exact ⟨i9 + 1, by omega, by go_num, _, rfl⟩
                            case measure => simp [intOf]; omega
                          · obtain rfl : i9 = n := by omega
                            have hii : ¬ ((i9 : Int) < (i9 : Int)) := by omega
                            go_wp2_with fail
                            refine (awake06 _).mono ?_
                            rintro e wl ⟨rfl, hbl⟩
                            have HBl := Lib.hid (HBkk.out.trans (((below_drewN (Below.refl _ _) nd).trans (hbl.mono (Nat.le_refl _))).mono HBkk.out.size))
                            obtain ⟨z2, z3⟩ := HBJf.out wl HBl.out
                            clear hbl
                            go_wp2_with fail
                            refine (buckets_at A6 none c6 N3 0 j 0 F3 U [] wl rfl HNU.out.symm HFU.out.1 HFU.out.2 (HJf.out.below HBl.out) HU.out.1 HUI.out (by omega) (Cl.nil _ _) (by omega)).mono ?_
                            rintro e wm2 ⟨Az, cz, rfl, _, hbz⟩
                            rw [bktF_nil]
                            have HEND := Lib.hid (HBf.out.trans ((HBl.out.trans (hbz.mono HBl.out.size)).mono HBf.out.size))
                            clear hbz
                            go_wp2_with fail
                            go_ret
                            exact ⟨rfl, HEND.out⟩
            · intro x c w5 cnt2 hwx hwc hlk hat hrg2 hlt2 hg2 hs2 hen
              have hcf : c = fB xs ys x := by
                have h1 := (HRD.out.2.1 x).1
                rw [hat] at h1
                simpa using h1
              have HCF := Lib.hid hcf
              have HLK := Lib.hid hlk
              have HB5 := Lib.hid (show Below wm.heap.size wm w5 from HB.out.grown hg2 HB.out.size (fun k hk => by cases hk; rw [HRS.out]; exact Nat.le_refl _))
              have HR2 := Lib.hid (And.intro hrg2 hlt2)
              clear hs2 hwx hwc hlk hat hrg2 hlt2 hg2 hrng hcf
              by_cases hc2 : c = 2
              · have hc2' : (c != 2) = false := by simp [hc2]
                have HN := Lib.hid (show (h && false) = true ↔ ∀ z, fB xs ys z = 2 → (fun z => left z && !z.sameKey (Lit.int .i64 x)) (.int .i64 z) = true from by
                  rw [Bool.and_false]
                  refine ⟨fun e => (by cases e), fun hh => ?_⟩
                  have h1 := hh x (by rw [← HCF.out]; exact hc2)
                  simp only [WideAt.sameKey_self (kI x)] at h1
                  simp at h1)
                cases h with
                | true =>
                  clear hc2
                  go_wp2_with fail
                  go_roundw
                  case rel => exact ⟨_, cnt2, false, rfl, HR2.out.1, HN.out, HB5.out⟩
                  case measure => rw [HR2.out.1.left_eq, HR.out.left_eq]; exact HR2.out.2
                | false =>
                  clear hc2
                  go_wp2_with fail
                  go_roundw
                  case rel => exact ⟨_, cnt2, false, rfl, HR2.out.1, HN.out, HB5.out⟩
                  case measure => rw [HR2.out.1.left_eq, HR.out.left_eq]; exact HR2.out.2
              · have hc2' : (c != 2) = true := by simpa using hc2
                have HN := Lib.hid (show h = true ↔ ∀ z, fB xs ys z = 2 → (fun z => left z && !z.sameKey (Lit.int .i64 x)) (.int .i64 z) = true from by
                  rw [HI.out]
                  refine ⟨fun hh z hz => ?_, fun hh z hz => ?_⟩
                  · have hne : (Lit.int .i64 z) ≠ .int .i64 x := fun e => hc2 (by rw [HCF.out]; simp at e; rw [← e]; exact hz)
                    simp only [sameKey_ne hne, hh z hz]
                    rfl
                  · have h1 := hh z hz
                    simp only [Bool.and_eq_true] at h1
                    exact h1.1)
                cases h with
                | true =>
                  clear hc2
                  go_wp2_with fail
                  go_roundw
                  case rel => exact ⟨_, cnt2, true, rfl, HR2.out.1, HN.out, HB5.out⟩
                  case measure => rw [HR2.out.1.left_eq, HR.out.left_eq]; exact HR2.out.2
                | false =>
                  clear hc2
                  go_wp2_with fail
                  go_roundw
                  case rel => exact ⟨_, cnt2, false, rfl, HR2.out.1, HN.out, HB5.out⟩
                  case measure => rw [HR2.out.1.left_eq, HR.out.left_eq]; exact HR2.out.2
end Go.Proofs.Ytnbjgeamdipkcaa
