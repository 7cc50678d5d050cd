/- The law PlanBelows. -/
import Derived.Test.YtpfceebmiolpeaaPlX
import Derived.Test.YtpfceebmiolpeaaPlV
import Derived.Maps.RangeWalk
import Derived.Maps.Ext
import Derived.Maps.OwnOps
import Derived.Maps.OwnSet
namespace Go.Proofs.Ytpfceebmiolpeaa.Pl
open Go.RowKit Go.Sort Go.Maps
set_option linter.unusedVariables false

theorem lawI : Keyed Try.prog 3 := int_keyed Try.underlying3
theorem kI (x : Int) : WideAt.IsKeyLit (Lit.int .i64 x) := trivial
theorem zeroB (w : World) : (zeroValue 4).run Try.prog w = .ok (.bool false) w := by kernel_rfl
/-- what such a map tells of a key -/
def LkB (D : DataW Unit) (kl : Lit) (v : Value) : Prop := ∃ c : Bool, v = .bool c ∧ D.atKey kl (.lit (.bool false)) = .lit (.bool c)
/-- 'm[k]' at truths -/
theorem lookup_bool {P : Program} {w : World} {ops : Array Oper} {rest : List Oper} {o : Oper} {a : Act} {Q : Exit → Act → World → Prop}
    (hg : o.guard = none) (m x : Operand) (t : TypeId) (hop : o.op = Op.lookup t m x false)
    (k e : TypeId) (K : Keyed P k) (ht : P.underlying t = some (.map k e)) (he : P.underlying e = some .bool) (hz : (zeroValue e).run P w = .ok (.bool false) w) (b n : Nat) (D : DataW Unit)
    (hm : a.eval m = .map (some b)) (hown : w.ownsMap P k (plainElem P e) b n D) (key : Value) (kl : Lit) (hx : a.eval x = key) (hkey : keyOf P k key = some kl)
    (hK : ∀ v : Value, LkB D kl v → wpList P ops Q rest (a.put o.dst v) w) :
    wpList P ops Q (o :: rest) a w := by
  refine wpList_plain hg fun K' hK' => ?_
  obtain ⟨v, ps, hrun, hv⟩ := hown.lookup K ht hz (plainElem_bool he false) hkey
  obtain ⟨c, rfl, hc⟩ : ∃ c : Bool, v = .bool c ∧ D.atKey kl (.lit (.bool false)) = .lit (.bool c) := by
    unfold plainElem at hv
    rw [he] at hv
    cases v <;> simp at hv
    exact ⟨_, rfl, hv.1.symm⟩
  unfold Oper.wp
  simp [execOp, hop, hm, hx, hrun, Result.andThen]
  exact hK' _ _ (hK _ ⟨c, rfl, hc⟩)
/-- a map that is true at some numbers -/
def GmD (D : DataW Unit) (L : List Int) : Prop := Tidy D ∧ ∀ x, D.atKey (.int .i64 x) (.lit (.bool false)) = .lit (.bool (decide (x ∈ L)))
theorem GmD.empty : GmD (.map []) [] := ⟨tidy_empty, fun x => by simp; rfl⟩
theorem GmD.put {D : DataW Unit} {L : List Int} (h : GmD D L) (x : Int) : GmD (D.put (.int .i64 x) (.lit (.bool true))) (L ++ [x]) := by
  obtain ⟨ht, hr⟩ := h
  refine ⟨ht.put (kI x) _, fun z => ?_⟩
  by_cases he : z = x
  · subst he
    rw [atKey_put_same ht.isMap (kI _)]
    simp
  · have hne : (Lit.int .i64 z) ≠ .int .i64 x := fun e => he (by simpa using e)
    rw [atKey_put_other hne, hr z]
    simp [he]
def Gm (w wr : World) (b n : Nat) (L : List Int) : Prop := ∃ D : DataW Unit, wr.ownsMap Try.prog 3 (plainElem Try.prog 4) b n D ∧ GmD D L ∧ w.heap.size ≤ b ∧ Below w.heap.size w wr
theorem Gm.later {w wr w' : World} {b n : Nat} {L : List Int} (h : Gm w wr b n L) (hb : Below wr.heap.size wr w') : Gm w w' b n L := by
  obtain ⟨D, h1, h2, h3, h4⟩ := h
  exact ⟨D, h1.kept (row := none) ⟨hb.os, hb.tape, hb.output, hb.size, fun k hk _ => hb.block k hk⟩ (by simp), h2, h3, h4.trans (hb.mono h4.size)⟩
theorem lt_mark {l : List It} {a b : Int} (hab : a ≤ b) : ∀ q ∈ (l.filter (belB a)).map It.q, q ∈ (l.filter (belB b)).map It.q := fun q hq => by
  obtain ⟨x, hx, rfl⟩ := List.mem_map.1 hq
  obtain ⟨h1, h2⟩ := List.mem_filter.1 hx
  refine List.mem_map.2 ⟨x, List.mem_filter.2 ⟨h1, ?_⟩, rfl⟩
  unfold belB at *
  rw [decide_eq_true_eq] at *
  omega
def inL (X : List Int) (q : Int) : Bool := decide (q ∈ X)
theorem both_len {X Y : List Int} (hx : X.Nodup) (hy : Y.Nodup) (h : ∀ q ∈ X, q ∈ Y) : (Y.filter (inL X)).length = X.length := by
  apply List.Perm.length_eq
  rw [List.perm_ext_iff_of_nodup (hy.sublist List.filter_sublist) hx]
  intro q
  rw [List.mem_filter]
  unfold inL
  rw [decide_eq_true_eq]
  exact ⟨fun h => h.2, fun hq => ⟨h q hq, hq⟩⟩
theorem inF_snoc (p : Int → Bool) (l : List Int) (x : Int) : ((l ++ [x]).filter p).length = (l.filter p).length + if p x then 1 else 0 := by
  rw [List.filter_append, List.length_append, List.filter_cons]
  cases p x <;> simp
theorem isIn_bel {l : List It} (hn : (l.map It.q).Nodup) {mark : Int} {X : List Int} (hX : ∀ q, q ∈ X ↔ q ∈ (l.filter (belB mark)).map It.q) {x : It} (hx : x ∈ l) : isIn X x = belB mark x := by
  rw [Bool.eq_iff_iff]
  unfold isIn
  rw [decide_eq_true_eq, hX, List.mem_map]
  constructor
  · rintro ⟨y, hy, e⟩
    obtain ⟨y1, y2⟩ := List.mem_filter.1 hy
    rwa [nodup_inj hn y1 hx e] at y2
  · exact fun hi => ⟨x, List.mem_filter.2 ⟨hx, hi⟩, rfl⟩
set_option maxHeartbeats 8000000 in
set_option maxRecDepth 100000 in
theorem belows_main (A : Option Addr) (n c : Nat) (l : List It) (mark more : Int) (w : World) (hn : n = l.length) (h : Cl w A (fC rfA l)) (hl : n ≤ 40) (hm0 : 0 ≤ more) (hm1 : more ≤ 1099511627776) (hk1 : mark ≤ 2199023255552) (hk2 : -2199023255552 ≤ mark) (hr : RightL l) (hi : ∀ x ∈ l, I64 x.q) :
    Calls Try.prog 8 #[.slice A n c, .int .i64 mark, .int .i64 more] w fun e w' => e = .returned (.bool true) ∧ Below w.heap.size w w' := by
  have HN := Lib.hid hn.symm
  have HL := Lib.hid h
  have HR := Lib.hid hr
  have HQI := Lib.hid hi
  have HRT := Lib.hid (rnot_any A n c l w hn h (by omega) true (rightB_true hr))
  have hn40 : ¬ (40 : Int) < (n : Int) := by omega
  have g1 : ¬ more < 0 := by omega
  have g2 : ¬ (1099511627776 : Int) < more := by omega
  have g3 : ¬ (2199023255552 : Int) < mark := by omega
  have g4 : ¬ mark < (-2199023255552 : Int) := by omega
  have hws : wrap64 (mark + more) = mark + more := IntWalk.wrap64_in _ ⟨by omega, by omega⟩
  have hmm := @run_makeMap Try.prog
  clear h hn hr hi
  go_enter Try.func8, Try.ntmps8
  go_wp2_with fail
  refine HRT.out.mono ?_
  rintro e w1 ⟨rfl, hb⟩
  have HB1 := Lib.hid hb
  clear hb
  go_wp2_with fail
  refine (to_any A n c l w1 HN.out.symm (HL.out.below HB1.out) (by rw [HN.out]; omega)).mono ?_
  rintro e w2 ⟨v, rfl, A2, c2, rfl, ho, hb⟩
  have HB2 := Lib.hid (HB1.out.trans (hb.mono HB1.out.size))
  have HC2 := Lib.hid (own_cl ho)
  rw [HN.out]
  clear ho hb
  go_wp2_with fail
  refine (below_any A2 n c2 l mark w2 HN.out.symm HC2.out HR.out.1 (by rw [HN.out]; omega)).mono ?_
  rintro e w3 ⟨v, rfl, A3, c3, rfl, ho, hb⟩
  obtain ⟨X, hX⟩ : ∃ X, srt ((l.filter fun x => decide (x.hi ≤ mark)).map It.q) = X := ⟨_, rfl⟩
  obtain ⟨xl, hxl⟩ : ∃ xl, X.length = xl := ⟨_, rfl⟩
  rw [hX, hxl] at ho
  rw [hX, hxl]
  have HXL := Lib.hid hxl
  have HXN := Lib.hid (show X.length = (l.filter (belB mark)).length by rw [← hX, srt_length, List.length_map]; rfl)
  have HXM := Lib.hid (show ∀ q, q ∈ X ↔ q ∈ (l.filter (belB mark)).map It.q from fun q => by rw [← hX, (srt_perm _).mem_iff]; exact Iff.rfl)
  have HXD := Lib.hid (show X.Nodup from by rw [← hX]; exact (srt_perm _).nodup_iff.2 (HR.out.2.sublist (List.filter_sublist.map _)))
  have hxn : xl ≤ n := by
    rw [← hxl, HXN.out, ← HN.out]
    exact List.length_filter_le _ _
  have HB3 := Lib.hid (HB2.out.trans (hb.mono HB2.out.size))
  have HC3 := Lib.hid (own_cl ho)
  clear ho hb hX hxl
  go_wp2_with fail
  refine (to_any A n c l w3 HN.out.symm (HL.out.below HB3.out) (by rw [HN.out]; omega)).mono ?_
  rintro e w4 ⟨v, rfl, A4, c4, rfl, ho, hb⟩
  have HB4 := Lib.hid (HB3.out.trans (hb.mono HB3.out.size))
  have HC4 := Lib.hid (own_cl ho)
  have HX4 := Lib.hid (HC3.out.below hb)
  rw [HN.out]
  clear ho hb
  go_wp2_with fail
  refine (below_any A4 n c4 l (mark + more) w4 HN.out.symm HC4.out HR.out.1 (by rw [HN.out]; omega)).mono ?_
  rintro e w6 ⟨v, rfl, A6, c6, rfl, ho, hb⟩
  obtain ⟨Y, hY⟩ : ∃ Y, srt ((l.filter fun x => decide (x.hi ≤ mark + more)).map It.q) = Y := ⟨_, rfl⟩
  obtain ⟨yl, hyl⟩ : ∃ yl, Y.length = yl := ⟨_, rfl⟩
  rw [hY, hyl] at ho
  rw [hY, hyl]
  have HYL := Lib.hid hyl
  have HYM := Lib.hid (show ∀ q, q ∈ Y ↔ q ∈ (l.filter (belB (mark + more))).map It.q from fun q => by rw [← hY, (srt_perm _).mem_iff]; exact Iff.rfl)
  have HYD := Lib.hid (show Y.Nodup from by rw [← hY]; exact (srt_perm _).nodup_iff.2 (HR.out.2.sublist (List.filter_sublist.map _)))
  have hyn : yl ≤ n := by
    rw [← hyl, ← hY, srt_length, List.length_map, ← HN.out]
    exact List.length_filter_le _ _
  have HXY := Lib.hid (both_len HXD.out HYD.out (fun q hq => (HYM.out q).2 (lt_mark (show mark ≤ mark + more by omega) q ((HXM.out q).1 hq))))
  have HB6 := Lib.hid (HB4.out.trans (hb.mono HB4.out.size))
  have HY6 := Lib.hid (own_cl ho)
  have HX6 := Lib.hid (HX4.out.below hb)
  clear ho hb hY hyl
  obtain ⟨bm, hbm⟩ : ∃ g, w6.heap.size = g := ⟨_, rfl⟩
  have HM0 := Lib.hid (show Gm w6 (w6.alloc (.map #[] 0)) bm 0 [] from ⟨.map [], by rw [← hbm]; exact World.ownsMap_made _ _ _ _, GmD.empty, by omega, (Below.refl _ _).alloc (Nat.le_refl _) _⟩)
  have hBM := Lib.hid hbm
  clear hbm
  go_wp2_with fail
  simp only [hBM.out]
  clear hmm
  go_loopw [60] (fun i wr => ∃ j : Nat, j ≤ xl ∧ i = .int .i64 j ∧ Hid (Gm w6 wr bm j (X.take j))) (fun i _ => xl - (intOf i).toNat)
  case atStart => exact ⟨0, by omega, rfl, HM0⟩
  case round =>
    obtain ⟨j, hj, rfl, HM⟩ := hrel
    obtain ⟨D, hown, hrd, hbb, hbl⟩ := HM.out
    by_cases hlt : j < xl
    · have hji : (j : Int) < (xl : Int) := by omega
      obtain ⟨q, hq⟩ := getElem?_lt (l := X) (k := j) (by rw [HXL.out]; exact hlt)
      obtain ⟨b3, off3, rfl, hc3⟩ := (HX6.out.below hbl).ints (by rw [HXL.out]; omega)
      have r0 := hc3 j q hq
      have HT := Lib.hid (take_snoc X j q hq)
      have hqi : I64 q := by
        obtain ⟨x, hx, rfl⟩ := List.mem_map.1 ((HXM.out q).1 (List.mem_of_getElem? hq))
        exact HQI.out x (List.mem_filter.1 hx).1
      have hkey := keyOf_int_mk (P := Try.prog) (q := .i64) (a := q) Try.underlying3 (WalkArith.wf_i64 ⟨by have := hqi.1; omega, by have := hqi.2; omega⟩)
      have HO := Lib.hid hown
      have HRD := Lib.hid hrd
      have HBL := Lib.hid (And.intro hbb hbl)
      have hk9 : j < maxLen := by unfold maxLen; omega
      clear hc3 hq hown hrd hbb hbl HM hqi
      go_wp2_with (at_mapUpdate; refine wpList_mapUpdate_own _ rfl _ _ _ _ rfl 3 4 lawI Try.underlying53 _ bm j D rfl HO.out hk9 _ _ _ rfl rfl hkey _ [] (plainElem_bool Try.underlying4 true) ?_)
      intro w5 ho5 hg5
      have HM5 := Lib.hid (show Gm w6 w5 bm (j + 1) (X.take (j + 1)) from ⟨_, ho5, by rw [HT.out]; exact HRD.out.put q, HBL.out.1, HBL.out.2.grown hg5 HBL.out.2.size (fun k hk => by cases hk; exact HBL.out.1)⟩)
      clear ho5 hg5
      go_wp2_with fail
      go_roundw
      case rel => exact ⟨j + 1, by omega, by go_num, HM5⟩
      case measure => simp [intOf]; omega
    · obtain rfl : j = xl := by omega
      have hji : ¬ ((j : Int) < (j : Int)) := by omega
      have HMX := Lib.hid (show Gm w6 wr bm j X from by
        have := HM.out
        rwa [List.take_of_length_le (by rw [HXL.out]; exact Nat.le_refl _)] at this)
      clear hown hrd hbb hbl HM
      go_wp2_with fail
      go_loopw [12, 69] (fun v i wr => ∃ f : Nat, f ≤ yl ∧ i = .int .i64 f ∧ v = .int .i64 ((((Y.take f).filter (inL X)).length : Nat) : Int) ∧ Hid (Gm w6 wr bm j X)) (fun _ i _ => yl - (intOf i).toNat)
      case atStart => exact ⟨0, by omega, rfl, by simp, HMX⟩
      case round =>
        obtain ⟨f, hf, rfl, rfl, HM⟩ := hrel
        obtain ⟨D, hown, hrd, hbb, hbl⟩ := HM.out
        obtain ⟨cn, hcn⟩ : ∃ cn, ((Y.take f).filter (inL X)).length = cn := ⟨_, rfl⟩
        have hcl : cn ≤ n := by
          rw [← hcn]
          refine Nat.le_trans (List.length_filter_le _ _) ?_
          rw [List.length_take]; omega
        rw [hcn]
        have HCN := Lib.hid hcn
        clear hcn
        by_cases hlt : f < yl
        · have hfi : (f : Int) < (yl : Int) := by omega
          obtain ⟨q, hq⟩ := getElem?_lt (l := Y) (k := f) (by rw [HYL.out]; exact hlt)
          obtain ⟨b6, off6, rfl, hc6⟩ := (HY6.out.below hbl).ints (by rw [HYL.out]; omega)
          have r0 := hc6 f q hq
          have HT := Lib.hid (show ((Y.take (f + 1)).filter (inL X)).length = cn + if inL X q then 1 else 0 by rw [take_snoc Y f q hq, inF_snoc, HCN.out])
          have hqi : I64 q := by
            obtain ⟨x, hx, rfl⟩ := List.mem_map.1 ((HYM.out q).1 (List.mem_of_getElem? hq))
            exact HQI.out x (List.mem_filter.1 hx).1
          have hkey := keyOf_int_mk (P := Try.prog) (q := .i64) (a := q) Try.underlying3 (WalkArith.wf_i64 ⟨by have := hqi.1; omega, by have := hqi.2; omega⟩)
          have HO := Lib.hid hown
          have HRD := Lib.hid hrd
          clear hc6 hq hown hrd hbb hbl hqi
          go_wp2_with (at_lookup; refine lookup_bool rfl _ _ _ rfl 3 4 lawI Try.underlying53 Try.underlying4 (zeroB _) bm j D rfl HO.out _ _ rfl hkey ?_)
          intro vb hvb
          obtain ⟨cb, rfl, hat⟩ := hvb
          have hcb : inL X q = cb := by
            have h1 := HRD.out.2 q
            rw [hat] at h1
            unfold inL
            simpa using h1.symm
          rw [hcb] at HT
          clear hat hcb
          cases cb with
          | true =>
            have HT2 := Lib.hid (show ((Y.take (f + 1)).filter (inL X)).length = cn + 1 from HT.out)
            go_wp2_with fail
            go_roundw
            case rel => exact ⟨f + 1, by omega, by go_num, by rw [HT2.out]; go_num, HM⟩
            case measure => simp [intOf]; omega
          | false =>
            have HT2 := Lib.hid (show ((Y.take (f + 1)).filter (inL X)).length = cn from HT.out)
            go_wp2_with fail
            go_roundw
            case rel => exact ⟨f + 1, by omega, by go_num, by rw [HT2.out], HM⟩
            case measure => simp [intOf]; omega
        · obtain rfl : f = yl := by omega
          have hfi : ¬ ((f : Int) < (f : Int)) := by omega
          have hcx : cn = j := by
            have h1 := HCN.out
            rw [List.take_of_length_le (by rw [HYL.out]; exact Nat.le_refl _), HXY.out, HXL.out] at h1
            exact h1.symm
          subst hcx
          have HMY := Lib.hid HM.out
          have HB8 := Lib.hid (HB6.out.trans (hbl.mono HB6.out.size))
          clear hown hrd hbb hbl HM
          go_wp2_with fail
          obtain ⟨w8, hw8⟩ : ∃ W, W = wr := ⟨_, rfl⟩
          rw [← hw8] at HMY HB8 ⊢
          clear hw8
          go_loopw [15, 81] (fun v i wr => ∃ a : Nat, a ≤ n ∧ i = .int .i64 a ∧ Hid (ORel 45 rfA w8 ((l.take a).filter fun x => !isIn X x) v wr)) (fun _ i _ => n - (intOf i).toNat)
          case atStart => exact ⟨0, by omega, rfl, Lib.hid (ORel.start _ _ w8)⟩
          case round =>
            obtain ⟨a, ha, rfl, HO1⟩ := hrel
            obtain ⟨B, m, d, rfl, hown, hb⟩ := HO1.out
            have HBR := Lib.hid (HB8.out.trans (hb.mono HB8.out.size))
            have hm := own_len4 fourR hown
            have hml : m ≤ n := by
              rw [hm]
              refine Nat.le_trans (List.length_filter_le _ _) ?_
              rw [List.length_take]; omega
            by_cases hlt : a < n
            · have hai : (a : Int) < (n : Int) := by omega
              obtain ⟨x, hx⟩ := getElem?_lt (l := l) (k := a) (by rw [HN.out]; exact hlt)
              obtain ⟨b, off, rfl, hcell⟩ := (HL.out.below HBR.out).rfs (by rw [HN.out]; omega)
              obtain ⟨p0, p1, p2, p3⟩ := hcell a x hx
              have HT := Lib.hid (show ((l.take (a + 1)).filter fun x => !isIn X x) = ((l.take a).filter fun x => !isIn X x) ++ if isIn X x then [] else [x] by
                rw [take_snoc l a x hx, List.filter_append, List.filter_cons]
                cases isIn X x <;> rfl)
              have hqi := HQI.out x (mem_of_at hx)
              have hkey := keyOf_int_mk (P := Try.prog) (q := .i64) (a := x.q) Try.underlying3 (WalkArith.wf_i64 ⟨by have := hqi.1; omega, by have := hqi.2; omega⟩)
              have hal : Below wr.heap.size wr (wr.alloc (.cells #[.int .i64 x.q, .int .i64 x.lv, .int .i64 x.lo, .int .i64 x.hi] 45)) := (Below.refl _ _).alloc (Nat.le_refl _) _
              have HO := Lib.hid (own_below hown hal)
              have HB := Lib.hid (hb.trans (hal.mono hb.size))
              obtain ⟨D, hmo, hrd, _, _⟩ := HMY.out.later HB.out
              have HMO := Lib.hid hmo
              have HRD := Lib.hid hrd
              obtain ⟨y0, y1, y2, y3⟩ := box4 (heap_alloc_new wr (.cells #[.int .i64 x.q, .int .i64 x.lv, .int .i64 x.lo, .int .i64 x.hi] 45))
              clear hcell hx hown hb hm HO1 hmo hrd hqi hal
              go_wp2_with (at_lookup; refine lookup_bool rfl _ _ _ rfl 3 4 lawI Try.underlying53 Try.underlying4 (zeroB _) bm cn D rfl HMO.out _ _ rfl hkey ?_)
              intro vb hvb
              obtain ⟨cb, rfl, hat⟩ := hvb
              have hcb : isIn X x = cb := by
                have h1 := HRD.out.2 x.q
                rw [hat] at h1
                unfold isIn
                simpa using h1.symm
              rw [hcb] at HT
              clear hat hcb
              cases cb with
              | true =>
                have HR3 := Lib.hid (show ORel 45 rfA w8 ((l.take (a + 1)).filter fun x => !isIn X x) (.slice B m d) (wr.alloc (.cells #[.int .i64 x.q, .int .i64 x.lv, .int .i64 x.lo, .int .i64 x.hi] 45)) from ⟨B, m, d, rfl, by rw [HT.out, if_pos rfl, List.append_nil]; exact HO.out, HB.out⟩)
                go_wp2_with fail
                go_roundw
                case rel => exact ⟨a + 1, by omega, by go_num, HR3⟩
                case measure => simp [intOf]; omega
              | false =>
                have HT2 := Lib.hid (show ((l.take (a + 1)).filter fun x => !isIn X x) = ((l.take a).filter fun x => !isIn X x) ++ [x] from HT.out)
                go_wp2_with (at_builtin; refine put_rf (W := w8) rfl _ _ rfl w8.heap.size B m d ((l.take a).filter fun x => !isIn X x) rfl HO.out HB.out HB.out.size (by omega) (wr.heap.size + 1) (by simp) rfl x ?_; intro A9 c9 w9 k1 k2 k3; rw [← HT2.out] at k1; have HR3 := Lib.hid (show ORel 45 rfA w8 ((l.take (a + 1)).filter fun x => !isIn X x) (.slice A9 (m + 1) c9) w9 from ⟨A9, m + 1, c9, rfl, k1, k2⟩); clear k1 k2 k3)
                go_roundw
                case rel => exact ⟨a + 1, by omega, by go_num, HR3⟩
                case measure => simp [intOf]; omega
            · obtain rfl : a = n := by omega
              have hai : ¬ ((a : Int) < (a : Int)) := by omega
              rw [List.take_of_length_le (by rw [HN.out]; exact Nat.le_refl _)] at hown hm
              obtain ⟨Z, hZ⟩ : ∃ Z, (l.filter fun x => !isIn X x) = Z := ⟨_, rfl⟩
              rw [hZ] at hown hm
              have HZM := Lib.hid hm
              have HZR := Lib.hid (show ∀ x ∈ Z, RightI x ∧ x.q ∉ X ∧ I64 x.q from fun x hx => by
                rw [← hZ] at hx
                obtain ⟨h1, h2⟩ := List.mem_filter.1 hx
                exact ⟨HR.out.1 x h1, by simpa [isIn] using h2, HQI.out x h1⟩)
              have hsum : cn + m = a := by
                have h1 := filter_split (isIn X) l
                rw [hZ, HN.out] at h1
                have h2 : l.filter (isIn X) = l.filter (belB mark) := List.filter_congr fun x hx => isIn_bel HR.out.2 HXM.out hx
                rw [h2, ← HXN.out, HXL.out] at h1
                omega
              have hsi : (m : Int) + (cn : Int) = (a : Int) := by omega
              have HCZ := Lib.hid (own_cl hown)
              have HMZ := Lib.hid (HMY.out.later hb)
              clear hown hb hm HO1 hZ
              go_wp2_with fail
              refine (to_any B m d Z wr HZM.out HCZ.out (by rw [← HZM.out]; omega)).mono ?_
              rintro e w10 ⟨v, rfl, A10, c10, rfl, ho, hb⟩
              have HB10 := Lib.hid (HBR.out.trans (hb.mono HBR.out.size))
              have HC10 := Lib.hid (own_cl ho)
              have HM10 := Lib.hid (HMZ.out.later hb)
              rw [← HZM.out]
              clear ho hb
              go_wp2_with fail
              refine (next_any A10 m c10 Z w10 HZM.out HC10.out (fun x hx => (HZR.out x hx).1) (by rw [← HZM.out]; omega)).mono ?_
              intro e w11 hnx
              obtain ⟨k, S, ok, A11, c11, hu, rfl, hcl, hb⟩ := nx_u hnx
              obtain ⟨sl, hsl⟩ : ∃ sl, S.length = sl := ⟨_, rfl⟩
              have HSL := Lib.hid hsl
              have hSl := (hu.more (fun x hx => (HZR.out x hx).1)).2
              rw [hsl, ← HZM.out] at hSl
              rw [hsl]
              have HSX := Lib.hid (show ∀ q ∈ S, q ∉ X ∧ I64 q from fun q hq => by
                obtain ⟨x, hx, rfl⟩ := hu.sub q hq
                exact (HZR.out x hx).2)
              have hb34 : Below w11.heap.size w11 (w11.alloc (.cells #[.slice A11 sl c11, .int .i64 k] 36)) := (Below.refl _ _).alloc (Nat.le_refl _) _
              have hb12 := hb.trans (hb34.mono hb.size)
              have HB12 := Lib.hid (HB10.out.trans (hb12.mono HB10.out.size))
              have HM12 := Lib.hid (HM10.out.later hb12)
              have HS12 := Lib.hid (hcl.below hb34)
              obtain ⟨y0, y1⟩ := box2 (heap_alloc_new w11 (.cells #[.slice A11 sl c11, .int .i64 k] 36))
              obtain ⟨W12, hW12⟩ : ∃ W, w11.alloc (.cells #[.slice A11 sl c11, .int .i64 k] 36) = W := ⟨_, rfl⟩
              rw [hW12] at HB12 HM12 HS12 y0 y1
              clear hnx hu hcl hb hb34 hb12 hsl
              go_wp2_with fail
              clear hW12 y0 y1
              go_loopw [104] (fun i wr => ∃ f : Nat, f ≤ sl ∧ i = .int .i64 f ∧ Hid (Below W12.heap.size W12 wr)) (fun i _ => sl - (intOf i).toNat)
              case atStart => exact ⟨0, by omega, rfl, Lib.hid (Below.refl _ _)⟩
              case round =>
                obtain ⟨f, hf, rfl, HF⟩ := hrel
                have HBF := Lib.hid (HB12.out.trans (HF.out.mono HB12.out.size))
                by_cases hlt : f < sl
                · have hfi : (f : Int) < (sl : Int) := by omega
                  obtain ⟨q, hq⟩ := getElem?_lt (l := S) (k := f) (by rw [HSL.out]; exact hlt)
                  obtain ⟨b6, off6, rfl, hc6⟩ := (HS12.out.below HF.out).ints (by rw [HSL.out]; omega)
                  have r0 := hc6 f q hq
                  obtain ⟨hqx, hqi⟩ := HSX.out q (List.mem_of_getElem? hq)
                  have HQX := Lib.hid hqx
                  have hkey := keyOf_int_mk (P := Try.prog) (q := .i64) (a := q) Try.underlying3 (WalkArith.wf_i64 ⟨by have := hqi.1; omega, by have := hqi.2; omega⟩)
                  obtain ⟨D, hmo, hrd, _, _⟩ := HM12.out.later HF.out
                  have HMO := Lib.hid hmo
                  have HRD := Lib.hid hrd
                  have HF2 := Lib.hid HF.out
                  clear hc6 hq hmo hrd hqi hqx HF
                  go_wp2_with (at_lookup; refine lookup_bool rfl _ _ _ rfl 3 4 lawI Try.underlying53 Try.underlying4 (zeroB _) bm cn D rfl HMO.out _ _ rfl hkey ?_)
                  intro vb hvb
                  obtain ⟨cb, rfl, hat⟩ := hvb
                  have hcb : cb = false := by
                    have h1 := HRD.out.2 q
                    rw [hat] at h1
                    simpa [HQX.out] using h1
                  subst hcb
                  clear hat
                  go_wp2_with fail
                  go_roundw
                  case rel => exact ⟨f + 1, by omega, by go_num, HF2⟩
                  case measure => simp [intOf]; omega
                · obtain rfl : f = sl := by omega
                  have hfi : ¬ ((f : Int) < (f : Int)) := by omega
                  clear HF
                  go_wp2_with fail
                  refine (awake_any _).mono ?_
                  rintro e w13 ⟨rfl, hb⟩
                  have HB13 := Lib.hid (HBF.out.trans (hb.mono HBF.out.size))
                  clear hb
                  go_wp2_with fail
                  go_ret
                  exact ⟨rfl, HB13.out⟩
set_option maxRecDepth 100000 in
theorem belows_long (A : Option Addr) (n c : Nat) (l : List It) (mark more : Int) (w : World) (hn : n = l.length) (h : Cl w A (fC rfA l)) (hnm : n ≤ 9223372036854775807) (hc : 40 < n ∨ (n ≤ 40 ∧ ¬ RightL l) ∨ (n ≤ 40 ∧ RightL l ∧ (more < 0 ∨ 1099511627776 < more ∨ 2199023255552 < mark ∨ mark < -2199023255552))) :
    Calls Try.prog 8 #[.slice A n c, .int .i64 mark, .int .i64 more] w fun e w' => e = .returned (.bool true) ∧ Below w.heap.size w w' := by
  rcases hc with h1 | ⟨h1, h3⟩ | ⟨h1, h3, h4⟩
  · have hn40 : (40 : Int) < (n : Int) := by omega
    clear hn h h1
    go_enter Try.func8, Try.ntmps8
    go_wp2_with fail
    refine (awake_any _).mono ?_
    rintro e w5 ⟨rfl, hb5⟩
    have HB5 := Lib.hid (hb5)
    clear hb5
    go_wp2_with fail
    go_ret
    exact ⟨rfl, HB5.out⟩
  · have hn40 : ¬ (40 : Int) < (n : Int) := by omega
    have HRT := Lib.hid (rnot_any A n c l w hn h (by omega) false (rightB_false h3))
    clear hn h h1 h3
    go_enter Try.func8, Try.ntmps8
    go_wp2_with fail
    refine HRT.out.mono ?_
    rintro e w1 ⟨rfl, hb1⟩
    have HB1 := Lib.hid hb1
    clear hb1
    go_wp2_with fail
    refine (awake_any _).mono ?_
    rintro e w5 ⟨rfl, hb5⟩
    have HB5 := Lib.hid (HB1.out.trans (hb5.mono HB1.out.size))
    clear hb5
    go_wp2_with fail
    go_ret
    exact ⟨rfl, HB5.out⟩
  · have hn40 : ¬ (40 : Int) < (n : Int) := by omega
    have HRT := Lib.hid (rnot_any A n c l w hn h (by omega) true (rightB_true h3))
    clear hn h h1 h3
    by_cases g1 : more < 0
    · clear h4
      go_enter Try.func8, Try.ntmps8
      go_wp2_with fail
      refine HRT.out.mono ?_
      rintro e w1 ⟨rfl, hb1⟩
      have HB1 := Lib.hid hb1
      clear hb1
      go_wp2_with fail
      refine (awake_any _).mono ?_
      rintro e w5 ⟨rfl, hb5⟩
      have HB5 := Lib.hid (HB1.out.trans (hb5.mono HB1.out.size))
      clear hb5
      go_wp2_with fail
      go_ret
      exact ⟨rfl, HB5.out⟩
    · have g1' : decide (more < 0) = false := by simpa using g1
      by_cases g2 : (1099511627776 : Int) < more
      · clear h4
        go_enter Try.func8, Try.ntmps8
        go_wp2_with fail
        refine HRT.out.mono ?_
        rintro e w1 ⟨rfl, hb1⟩
        have HB1 := Lib.hid hb1
        clear hb1
        go_wp2_with fail
        refine (awake_any _).mono ?_
        rintro e w5 ⟨rfl, hb5⟩
        have HB5 := Lib.hid (HB1.out.trans (hb5.mono HB1.out.size))
        clear hb5
        go_wp2_with fail
        go_ret
        exact ⟨rfl, HB5.out⟩
      · have g2' : decide ((1099511627776 : Int) < more) = false := by simpa using g2
        by_cases g3 : (2199023255552 : Int) < mark
        · clear h4
          go_enter Try.func8, Try.ntmps8
          go_wp2_with fail
          refine HRT.out.mono ?_
          rintro e w1 ⟨rfl, hb1⟩
          have HB1 := Lib.hid hb1
          clear hb1
          go_wp2_with fail
          refine (awake_any _).mono ?_
          rintro e w5 ⟨rfl, hb5⟩
          have HB5 := Lib.hid (HB1.out.trans (hb5.mono HB1.out.size))
          clear hb5
          go_wp2_with fail
          go_ret
          exact ⟨rfl, HB5.out⟩
        · have g3' : decide ((2199023255552 : Int) < mark) = false := by simpa using g3
          have g4 : mark < (-2199023255552 : Int) := by omega
          clear h4
          go_enter Try.func8, Try.ntmps8
          go_wp2_with fail
          refine HRT.out.mono ?_
          rintro e w1 ⟨rfl, hb1⟩
          have HB1 := Lib.hid hb1
          clear hb1
          go_wp2_with fail
          refine (awake_any _).mono ?_
          rintro e w5 ⟨rfl, hb5⟩
          have HB5 := Lib.hid (HB1.out.trans (hb5.mono HB1.out.size))
          clear hb5
          go_wp2_with fail
          go_ret
          exact ⟨rfl, HB5.out⟩
theorem belows_walk (A : Option Addr) (n c : Nat) (l : List It) (mark more : Int) (w : World) (hn : n = l.length) (h : Cl w A (fC rfA l)) (hnm : l.length ≤ 9223372036854775807) (hi : ∀ x ∈ l, I64 x.q) :
    Calls Try.prog 8 #[.slice A n c, .int .i64 mark, .int .i64 more] w fun e w' => e = .returned (.bool true) ∧ Below w.heap.size w w' := by
  by_cases h1 : n ≤ 40
  · by_cases h3 : RightL l
    · by_cases h4 : 0 ≤ more ∧ more ≤ 1099511627776 ∧ mark ≤ 2199023255552 ∧ -2199023255552 ≤ mark
      · exact belows_main A n c l mark more w hn h h1 h4.1 h4.2.1 h4.2.2.1 h4.2.2.2 h3 hi
      · exact belows_long A n c l mark more w hn h (by omega) (.inr (.inr ⟨h1, h3, by omega⟩))
    · exact belows_long A n c l mark more w hn h (by omega) (.inr (.inl ⟨h1, h3⟩))
  · exact belows_long A n c l mark more w hn h (by omega) (.inl (by omega))
end Go.Proofs.Ytpfceebmiolpeaa.Pl
